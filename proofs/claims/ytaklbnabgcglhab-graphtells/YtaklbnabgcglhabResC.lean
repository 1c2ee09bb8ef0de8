/- The contracts of resolve.Kernel and wrongPlaces. -/
import Derived.Test.YtaklbnabgcglhabResB
import Derived.Test.YtaklbnabgcglhabPlcW
import Derived.Laws.EntriesVeiled
namespace Go.Proofs.Ytaklbnabgcglhab
open Go.RowKit Go.PlainAid

set_option maxRecDepth 100000

set_option maxHeartbeats 1000000 in
theorem kernel_any (K : Ker) (v : Value) (w : World) (hK : IsKer w.heap.size w v K) (hf : K.fits) :
    Calls Try.prog 24 #[v] w fun e w' => e = .returned (.int .i64 (chkKer K)) ∧ Below w.heap.size w w' := by
  obtain ⟨ve, rfl, hE⟩ := hK
  have HE : Hid (∀ w', Below w.heap.size w w' → K.exps.length ≤ 8 → Calls Try.prog 57 #[ve, .int .i64 4096] w' fun e w'' => e = .returned (.int .i64 (chkExps 4096 [] K.exps)) ∧ Below w'.heap.size w' w'') :=
    fun w' hb hl => wrongExports_any K.exps ve _ w' ((hE.below hb).more hb.size) hf hl
  obtain ⟨pe, ke, rfl, _, hE⟩ := hE
  clear hE hf
  have key : (isVer K.major K.minor = false ∧ chkKer K = 3) ∨ (isVer K.major K.minor = true ∧ 8 < K.exps.length ∧ chkKer K = 2) ∨ (isVer K.major K.minor = true ∧ K.exps.length ≤ 8 ∧ chkKer K = chkExps 4096 [] K.exps) := by
    unfold chkKer
    cases h1 : isVer K.major K.minor
    · exact .inl ⟨rfl, rfl⟩
    · by_cases h2 : 8 < K.exps.length
      · exact .inr (.inl ⟨rfl, h2, by rw [if_neg (by decide), if_pos h2]⟩)
      · exact .inr (.inr ⟨rfl, by omega, by rw [if_neg (by decide), if_neg h2]⟩)
  generalize chkKer K = R at *
  generalize chkExps 4096 [] K.exps = ce at *
  obtain ⟨ma, mi, es⟩ := K
  dsimp only at *
  generalize es.length = le at *
  have HW1 : Hid (Below w.heap.size w (w.alloc (.cells #[.int .i64 ma, .int .i64 mi, .slice pe le ke] 37))) := (Below.refl _ _).alloc (Nat.le_refl _) _
  rcases key with ⟨h1, rfl⟩ | ⟨h1, h2, rfl⟩ | ⟨h1, h2, rfl⟩
  · go_enter Try.func24, Try.ntmps24
    go_wp2_with (go_at_call 56; refine (isVersion_any _ _ _).mono ?_; rintro e w' ⟨rfl, rfl⟩)
    go_ret
    exact ⟨rfl, HW1.out⟩
  · have h2' : (8 : Int) < le := by omega
    go_enter Try.func24, Try.ntmps24
    go_wp2_with (go_at_call 56; refine (isVersion_any _ _ _).mono ?_; rintro e w' ⟨rfl, rfl⟩)
    go_ret
    exact ⟨rfl, HW1.out⟩
  · have h2' : decide ((8 : Int) < le) = false := decide_eq_false (by omega)
    have h2'' : decide (8 < le) = false := decide_eq_false (by omega)
    go_enter Try.func24, Try.ntmps24
    go_wp2_with (go_at_call 56; refine (isVersion_any _ _ _).mono ?_; rintro e w' ⟨rfl, rfl⟩)
    refine (HE.out _ HW1.out h2).mono ?_
    rintro e w1 ⟨rfl, b1⟩
    go_wp2
    go_ret
    exact ⟨rfl, HW1.out.trans (b1.mono HW1.out.size)⟩

set_option maxHeartbeats 1000000 in
theorem far_any (x : PV) (n₀ : Nat) (w : World) (hat : PlcAt n₀ w x) :
    Calls Try.prog 74 #[x.val] w fun e w' => e = .returned (.int .i64 (farErr x.plc)) ∧ Below w.heap.size w w' := by
  have key : (x.first < 0 ∧ farErr x.plc = 3) ∨ (0 ≤ x.first ∧ 15 < x.first ∧ farErr x.plc = 3) ∨ (0 ≤ x.first ∧ x.first ≤ 15 ∧ farErr x.plc = 0) := by
    unfold farErr PV.plc
    dsimp only
    by_cases g1 : x.first < 0
    · exact .inl ⟨g1, by rw [betw_false (.inl g1), if_pos rfl]⟩
    by_cases g2 : 15 < x.first
    · exact .inr (.inl ⟨by omega, g2, by rw [betw_false (.inr g2), if_pos rfl]⟩)
    · exact .inr (.inr ⟨by omega, by omega, by rw [betw_true (by omega) (by omega), if_neg (by decide)]⟩)
  generalize farErr x.plc = oe at *
  unfold PV.val
  obtain ⟨⟨pe, ke, e4, _⟩, ⟨pi, ki, e5, _⟩, ⟨pp, kp, e6, _⟩⟩ := hat
  obtain ⟨⟨N, ma, mi, T, es, is, ps⟩, ve, vi, vp, fi⟩ := x
  dsimp only at *
  subst e4 e5 e6
  generalize es.length = le at *
  generalize is.length = li at *
  generalize ps.length = lp at *
  have B2 : Hid (Below w.heap.size w (w.alloc (.cells #[.string N, .int .i64 ma, .int .i64 mi, .string T, .slice pe le ke, .slice pi li ki, .slice pp lp kp, .int .i64 fi] 56))) := (Below.refl _ _).alloc (Nat.le_refl _) _
  rcases key with ⟨h1, rfl⟩ | ⟨h1, h2, rfl⟩ | ⟨h1, h2, rfl⟩
  · go_enter Try.func74, Try.ntmps74
    go_wp2
    go_ret
    exact ⟨rfl, B2.out⟩
  · have h1' : decide (fi < 0) = false := decide_eq_false (by omega)
    have h2' : (16 : Int) ≤ fi := by omega
    go_enter Try.func74, Try.ntmps74
    go_wp2
    go_ret
    exact ⟨rfl, B2.out⟩
  · have h1' : decide (fi < 0) = false := decide_eq_false (by omega)
    have h2' : decide ((16 : Int) ≤ fi) = false := decide_eq_false (by omega)
    go_enter Try.func74, Try.ntmps74
    go_wp2
    go_ret
    exact ⟨rfl, B2.out⟩

set_option maxHeartbeats 2000000 in
theorem wrongPlaces_any (K : Ker) (vk : Value) (l : List PV) (v : Value) (w : World) (hK : IsKer w.heap.size w vk K) (hf : K.fits) (hrow : IsPlcs w.heap.size w v l) (hfit : ∀ x ∈ l, x.mod.fits) :
    Calls Try.prog 43 #[vk, v] w fun e w' => e = .returned (.int .i64 (chkFind K (l.map PV.plc))) ∧ Below w.heap.size w w' := by
  have HK : Hid (∀ w', Below w.heap.size w w' → Calls Try.prog 24 #[vk] w' fun e w'' => e = .returned (.int .i64 (chkKer K)) ∧ Below w'.heap.size w' w'') := fun w' hb => kernel_any K vk w' ((hK.below hb).more hb.size) hf
  have HP : Hid (∀ (W : World) (t : TypeId), Below w.heap.size w W → Calls Try.prog 73 #[v, .slice (some ⟨W.heap.size, 0, none⟩) 1 1] (W.alloc (.cells #[.func (.func 74) #[] #[]] t)) fun e w' => e = .returned (.int .i64 (chkPlaced (l.map PV.plc))) ∧ Below (W.heap.size + 1) (W.alloc (.cells #[.func (.func 74) #[] #[]] t)) w') := by
    intro W t hb
    have hb1 : Below w.heap.size w (W.alloc (.cells #[.func (.func 74) #[] #[]] t)) := hb.alloc hb.size _
    have := placedWrong_one l v W.heap.size 74 farErr (W.alloc (.cells #[.func (.func 74) #[] #[]] t)) ((hrow.below hb1).more hb1.size) hfit (by simp) (by simp) (fun w x => enters_of Try.func74 (by kernel_rfl) rfl _ w) (fun x hx _ W' hb' => far_any x _ W' (((hrow.2 x hx).below hb1).more hb1.size |>.below hb'))
    refine this.mono ?_
    rintro e w' ⟨rfl, b⟩
    refine ⟨?_, by simpa using b⟩
    unfold chkPlaced
    rw [chkPls_by, List.length_map]
  obtain ⟨vke, ek, hE⟩ := hK
  obtain ⟨⟨a, cap, rfl, _, hrow⟩, _⟩ := hrow
  have key : (chkKer K ≠ 0 ∧ chkFind K (l.map PV.plc) = chkKer K) ∨ (chkKer K = 0 ∧ chkFind K (l.map PV.plc) = chkPlaced (l.map PV.plc)) := by
    unfold chkFind
    by_cases h : chkKer K = 0
    · exact .inr ⟨h, by rw [if_neg (by omega)]⟩
    · exact .inl ⟨h, by rw [if_pos h]⟩
  generalize chkFind K (l.map PV.plc) = R at *
  generalize chkPlaced (l.map PV.plc) = cp at *
  generalize chkKer K = ck at *
  subst ek
  clear hrow
  obtain ⟨pe, ke, rfl, _, _⟩ := hE
  have HW1 : Hid (Below w.heap.size w (w.alloc (.cells #[.int .i64 K.major, .int .i64 K.minor, .slice pe K.exps.length ke] 37))) := (Below.refl _ _).alloc (Nat.le_refl _) _
  go_enter Try.func43, Try.ntmps43
  go_wp2_with fail
  refine (HK.out _ HW1.out).mono ?_
  rintro e w1 ⟨rfl, b1⟩
  have B1 := HW1.out.trans (b1.mono HW1.out.size)
  clear HW1 b1 HK
  rcases key with ⟨h0, rfl⟩ | ⟨rfl, rfl⟩
  · have h0' : (R != 0) = true := by simpa using h0
    clear HP
    go_wp2
    go_ret
    exact ⟨rfl, B1⟩
  · go_wp2_with fail
    refine (HP.out w1 _ B1).mono ?_
    rintro e w2 ⟨rfl, b2⟩
    have B2 := (B1.alloc B1.size _).trans (b2.mono (by have := B1.size; omega))
    clear HP b2
    go_wp2
    go_ret
    exact ⟨rfl, B2⟩

end Go.Proofs.Ytaklbnabgcglhab
