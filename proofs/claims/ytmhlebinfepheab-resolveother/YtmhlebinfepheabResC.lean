/- The contracts of resolve.Kernel and wrongPlaces. -/
import Derived.Test.YtmhlebinfepheabResB
namespace Go.Proofs.Ytmhlebinfepheab
open Go.RowKit Go.PlainAid

set_option maxRecDepth 100000

set_option maxHeartbeats 1000000 in
theorem kernel_any (K : Ker) (v : Value) (w : World) (hK : IsKer w.heap.size w v K) (hf : K.fits) :
    Calls Try.prog 23 #[v] w fun e w' => e = .returned (.int .i64 (chkKer K)) ∧ Below w.heap.size w w' := by
  obtain ⟨ve, rfl, hE⟩ := hK
  have HE : Hid (∀ w', Below w.heap.size w w' → K.exps.length ≤ 8 → Calls Try.prog 47 #[ve, .int .i64 4096] w' fun e w'' => e = .returned (.int .i64 (chkExps 4096 [] K.exps)) ∧ Below w'.heap.size w' w'') :=
    fun w' hb hl => wrongExports_any K.exps ve _ w' ((hE.below hb).more hb.size) hf hl
  obtain ⟨pe, ke, rfl, _, hE⟩ := hE
  clear hE hf
  have key : (isVer K.major K.minor = false ∧ chkKer K = 3) ∨ (isVer K.major K.minor = true ∧ 8 < K.exps.length ∧ chkKer K = 2) ∨ (isVer K.major K.minor = true ∧ K.exps.length ≤ 8 ∧ chkKer K = chkExps 4096 [] K.exps) := by
    unfold chkKer
    cases h1 : isVer K.major K.minor
    · exact .inl ⟨rfl, rfl⟩
    · by_cases h2 : 8 < K.exps.length
      · exact .inr (.inl ⟨rfl, h2, by rw [if_neg (by decide), if_pos h2]⟩)
      · exact .inr (.inr ⟨rfl, by omega, by rw [if_neg (by decide), if_neg h2]⟩)
  generalize chkKer K = R at *
  generalize chkExps 4096 [] K.exps = ce at *
  obtain ⟨ma, mi, es⟩ := K
  dsimp only at *
  generalize es.length = le at *
  have HW1 : Hid (Below w.heap.size w (w.alloc (.cells #[.int .i64 ma, .int .i64 mi, .slice pe le ke] 37))) := (Below.refl _ _).alloc (Nat.le_refl _) _
  rcases key with ⟨h1, rfl⟩ | ⟨h1, h2, rfl⟩ | ⟨h1, h2, rfl⟩
  · go_enter Try.func23, Try.ntmps23
    go_wp2_with (go_at_call 46; refine (isVersion_any _ _ _).mono ?_; rintro e w' ⟨rfl, rfl⟩)
    go_ret
    exact ⟨rfl, HW1.out⟩
  · have h2' : (8 : Int) < le := by omega
    go_enter Try.func23, Try.ntmps23
    go_wp2_with (go_at_call 46; refine (isVersion_any _ _ _).mono ?_; rintro e w' ⟨rfl, rfl⟩)
    go_ret
    exact ⟨rfl, HW1.out⟩
  · have h2' : decide ((8 : Int) < le) = false := decide_eq_false (by omega)
    have h2'' : decide (8 < le) = false := decide_eq_false (by omega)
    go_enter Try.func23, Try.ntmps23
    go_wp2_with (go_at_call 46; refine (isVersion_any _ _ _).mono ?_; rintro e w' ⟨rfl, rfl⟩)
    refine (HE.out _ HW1.out h2).mono ?_
    rintro e w1 ⟨rfl, b1⟩
    go_wp2
    go_ret
    exact ⟨rfl, HW1.out.trans (b1.mono HW1.out.size)⟩

theorem chkPls_step (x : PV) (l : List PV) : (chkMod x.mod ≠ 0 ∧ chkPls ((x :: l).map PV.plc) = chkMod x.mod) ∨ (chkMod x.mod = 0 ∧ x.first < 0 ∧ chkPls ((x :: l).map PV.plc) = 3) ∨ (chkMod x.mod = 0 ∧ 0 ≤ x.first ∧ 15 < x.first ∧ chkPls ((x :: l).map PV.plc) = 3) ∨ (chkMod x.mod = 0 ∧ 0 ≤ x.first ∧ x.first ≤ 15 ∧ chkPls ((x :: l).map PV.plc) = chkPls (l.map PV.plc)) := by
  have hs : chkPls ((x :: l).map PV.plc) = if chkMod x.mod ≠ 0 then chkMod x.mod else if betw x.first 0 15 = false then 3 else chkPls (l.map PV.plc) := rfl
  rw [hs]
  by_cases h0 : chkMod x.mod = 0
  · by_cases h1 : x.first < 0
    · exact .inr (.inl ⟨h0, h1, by rw [if_neg (by omega), betw_false (.inl h1), if_pos rfl]⟩)
    by_cases h2 : 15 < x.first
    · exact .inr (.inr (.inl ⟨h0, by omega, h2, by rw [if_neg (by omega), betw_false (.inr h2), if_pos rfl]⟩))
    · exact .inr (.inr (.inr ⟨h0, by omega, by omega, by rw [if_neg (by omega), betw_true (by omega) (by omega), if_neg (by decide)]⟩))
  · exact .inl ⟨h0, by rw [if_pos h0]⟩

set_option maxHeartbeats 2000000 in
theorem wrongPlaces_any (K : Ker) (vk : Value) (l : List PV) (v : Value) (w : World) (hK : IsKer w.heap.size w vk K) (hf : K.fits) (hrow : IsPlcs w.heap.size w v l) (hfit : ∀ x ∈ l, x.mod.fits) :
    Calls Try.prog 32 #[vk, v] w fun e w' => e = .returned (.int .i64 (chkFind K (l.map PV.plc))) ∧ Below w.heap.size w w' := by
  have HK : Hid (∀ w', Below w.heap.size w w' → Calls Try.prog 23 #[vk] w' fun e w'' => e = .returned (.int .i64 (chkKer K)) ∧ Below w'.heap.size w' w'') := fun w' hb => kernel_any K vk w' ((hK.below hb).more hb.size) hf
  obtain ⟨vke, ek, _⟩ := hK
  by_cases h0 : chkKer K = 0
  · have HC0 : Hid (∀ x ∈ l, ∀ W, Below w.heap.size w W → Calls Try.prog 35 #[x.modV] W fun e w' => e = .returned (.int .i64 (chkMod x.mod)) ∧ Below W.heap.size W w') := fun x hx W hb => check_any x.mod x.modV W (((hrow.2 x hx).below hb).more hb.size |>.isMod) (hfit x hx)
    have hat := hrow.2
    obtain ⟨⟨a, cap, rfl, _, hrow⟩, _⟩ := hrow
    rw [h0] at HK
    by_cases h8 : 8 < l.length
    · have e1 : chkFind K (l.map PV.plc) = 2 := by
        unfold chkFind chkPlaced
        rw [if_neg (by omega), if_pos (by simpa using h8)]
      rw [e1]
      have h8' : (8 : Int) < l.length := by omega
      clear e1 HC0 hat hrow
      subst ek
      go_enter Try.func32, Try.ntmps32
      go_wp2_with (go_at_call 23; refine (HK.out _ ((Below.refl _ _).alloc (Nat.le_refl _) _)).mono ?_; rintro e w1 ⟨rfl, b1⟩)
      go_ret
      exact ⟨rfl, ((Below.refl _ _).alloc (Nat.le_refl _) _).trans (b1.mono (by simp))⟩
    · have e1 : chkFind K (l.map PV.plc) = chkPls (l.map PV.plc) := by
        unfold chkFind chkPlaced
        rw [if_neg (by omega), if_neg (by simpa using h8)]
      rw [e1]
      have h8' : decide ((8 : Int) < l.length) = false := decide_eq_false (by omega)
      have h8'' : decide (8 < l.length) = false := decide_eq_false (by omega)
      clear e1
      subst ek
      go_enter Try.func32, Try.ntmps32
      go_wp2_with (go_at_call 23; refine (HK.out _ ((Below.refl _ _).alloc (Nat.le_refl _) _)).mono ?_; rintro e w1 ⟨rfl, b1⟩)
      have B1 : Below w.heap.size w w1 := ((Below.refl _ _).alloc (Nat.le_refl _) _).trans (b1.mono (by simp))
      clear b1
      go_loopw [19] (fun i wr => ∃ (k : Nat), k ≤ l.length ∧ i = .int .i64 k ∧ Hid (chkPls (l.map PV.plc) = chkPls ((l.drop k).map PV.plc)) ∧ Below w.heap.size w wr) (fun i _ => l.length - (intOf i).toNat)
      case atStart => exact ⟨0, Nat.zero_le _, rfl, by show chkPls (l.map PV.plc) = chkPls ((l.drop 0).map PV.plc); rfl, B1⟩
      case round =>
        obtain ⟨k, hk, rfl, HC, B⟩ := hrel
        by_cases hlt : k < l.length
        · obtain ⟨x, hx⟩ : ∃ x, l[k]? = some x := ⟨_, List.getElem?_eq_getElem hlt⟩
          rcases hrow with h | ⟨b, off, rfl, hbn, hcells⟩
          · subst h; simp at hlt
          have key := chkPls_step x (l.drop (k + 1))
          have HR : Hid (chkPls (l.map PV.plc) = chkPls ((x :: l.drop (k + 1)).map PV.plc)) := by
            show chkPls (l.map PV.plc) = _
            rw [HC.out, drop_at hx]
          have HM : Hid (∀ W, Below w.heap.size w W → Calls Try.prog 35 #[x.modV] W fun e w' => e = .returned (.int .i64 (chkMod x.mod)) ∧ Below W.heap.size W w') := HC0.out x (List.mem_of_getElem? hx)
          obtain ⟨⟨pe, ke, e4, _⟩, ⟨pi, ki, e5, _⟩, ⟨pp, kp, e6, _⟩⟩ := hat x (List.mem_of_getElem? hx)
          obtain ⟨⟨N, ma, mi, T, es, is, ps⟩, ve, vi, vp, fi⟩ := x
          dsimp only at e4 e5 e6
          subst e4 e5 e6
          have c0 := (B.cell (p := ⟨b, off + k * 8 + 0, none⟩) hbn).trans (hcells k _ hx 0 (by omega))
          have c1 := (B.cell (p := ⟨b, off + k * 8 + 1, none⟩) hbn).trans (hcells k _ hx 1 (by omega))
          have c2 := (B.cell (p := ⟨b, off + k * 8 + 2, none⟩) hbn).trans (hcells k _ hx 2 (by omega))
          have c3 := (B.cell (p := ⟨b, off + k * 8 + 3, none⟩) hbn).trans (hcells k _ hx 3 (by omega))
          have c4 := (B.cell (p := ⟨b, off + k * 8 + 4, none⟩) hbn).trans (hcells k _ hx 4 (by omega))
          have c5 := (B.cell (p := ⟨b, off + k * 8 + 5, none⟩) hbn).trans (hcells k _ hx 5 (by omega))
          have c6 := (B.cell (p := ⟨b, off + k * 8 + 6, none⟩) hbn).trans (hcells k _ hx 6 (by omega))
          have c7 := (B.cell (p := ⟨b, off + k * 8 + 7, none⟩) hbn).trans (hcells k _ hx 7 (by omega))
          dsimp only [PV.cell, PV.modV] at c0 c1 c2 c3 c4 c5 c6 c7 HM
          rw [Nat.add_zero] at c0
          clear HC HC0 hcells hx hat
          dsimp only at key
          generalize chkMod ⟨N, ma, mi, T, es, is, ps⟩ = cm at key HM
          generalize chkPls (List.map PV.plc (⟨⟨N, ma, mi, T, es, is, ps⟩, .slice pe es.length ke, .slice pi is.length ki, .slice pp ps.length kp, fi⟩ :: l.drop (k + 1))) = R at key HR
          generalize es.length = le at *
          generalize is.length = li at *
          generalize ps.length = lp at *
          have BB : Below w.heap.size w (wr.alloc (.cells #[.string N, .int .i64 ma, .int .i64 mi, .string T, .slice pe le ke, .slice pi li ki, .slice pp lp kp, .int .i64 fi] 56)) := B.alloc B.size _
          have X7 : (wr.alloc (.cells #[.string N, .int .i64 ma, .int .i64 mi, .string T, .slice pe le ke, .slice pi li ki, .slice pp lp kp, .int .i64 fi] 56)).cell? ⟨wr.heap.size, 7, none⟩ = some (.int .i64 fi) := by simp
          have XL : wr.heap.size < (wr.alloc (.cells #[.string N, .int .i64 ma, .int .i64 mi, .string T, .slice pe le ke, .slice pi li ki, .slice pp lp kp, .int .i64 fi] 56)).heap.size := by simp
          have HBB : Hid (Below w.heap.size w (wr.alloc (.cells #[.string N, .int .i64 ma, .int .i64 mi, .string T, .slice pe le ke, .slice pi li ki, .slice pp lp kp, .int .i64 fi] 56))) := BB
          have HX7 : Hid ((wr.alloc (.cells #[.string N, .int .i64 ma, .int .i64 mi, .string T, .slice pe le ke, .slice pi li ki, .slice pp lp kp, .int .i64 fi] 56)).cell? ⟨wr.heap.size, 7, none⟩ = some (.int .i64 fi)) := X7
          clear BB X7
          go_wp2_with fail
          refine (HM.out _ HBB.out).mono ?_
          rintro e w2 ⟨rfl, b2⟩
          have B2 := HBB.out.trans (b2.mono HBB.out.size)
          have X7 := (b2.cell (p := ⟨wr.heap.size, 7, none⟩) XL).trans HX7.out
          clear HBB HX7 b2 XL c0 c1 c2 c3 c4 c5 c6 c7
          rcases key with ⟨h1, rfl⟩ | ⟨rfl, h2, rfl⟩ | ⟨rfl, h2, h3, rfl⟩ | ⟨rfl, h2, h3, rfl⟩
          · have h1' : (R != 0) = true := by simpa using h1
            go_wp2
            go_ret
            exact ⟨by rw [HR.out]; rfl, B2⟩
          · go_wp2
            go_ret
            exact ⟨by rw [HR.out]; rfl, B2⟩
          · go_wp2
            go_ret
            exact ⟨by rw [HR.out]; rfl, B2⟩
          · go_wp2
            exact ⟨⟨k + 1, by omega, by go_num, HR.out, B2⟩, by simp [intOf]; omega⟩
        · obtain rfl : k = l.length := by omega
          have HZ : Hid (chkPls (l.map PV.plc) = 0) := by
            show chkPls (l.map PV.plc) = 0
            rw [HC.out, List.drop_length]; rfl
          go_wp2
          go_ret
          exact ⟨by rw [HZ.out]; rfl, B⟩
  · have e1 : chkFind K (l.map PV.plc) = chkKer K := by unfold chkFind; rw [if_pos h0]
    rw [e1]
    have h0' : (chkKer K != 0) = true := by simpa using h0
    clear e1 h0
    obtain ⟨⟨a, cap, rfl, _, hrow⟩, _⟩ := hrow
    generalize chkKer K = ck at *
    subst ek
    go_enter Try.func32, Try.ntmps32
    go_wp2_with (go_at_call 23; refine (HK.out _ ((Below.refl _ _).alloc (Nat.le_refl _) _)).mono ?_; rintro e w1 ⟨rfl, b1⟩)
    go_ret
    exact ⟨rfl, ((Below.refl _ _).alloc (Nat.le_refl _) _).trans (b1.mono (by simp))⟩

end Go.Proofs.Ytmhlebinfepheab
