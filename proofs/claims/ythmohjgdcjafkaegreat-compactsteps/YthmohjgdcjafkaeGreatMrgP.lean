/- Texts that are laid together. -/
import Derived.Test.YthmohjgdcjafkaeGreatMrgO
import Derived.Test.YthmohjgdcjafkaeGreatMrgL
import Derived.Test.YthmohjgdcjafkaeGreatMrgN

/- The contracts of graph.Needs and graph.Users. -/
namespace Go.Proofs.YthmohjgdcjafkaeGreat
open Go.RowKit Go.PlainAid

set_option maxRecDepth 100000

set_option maxHeartbeats 2000000 in
theorem users1_any (x y : PV) (w : World) (hx : PlcAt w.heap.size w x) (hy : PlcAt w.heap.size w y) :
    Calls Tryz.prog 79 #[x.modV, y.modV] w fun e w' => e = .returned (.bool (nxUse x.mod y.mod)) ∧ Below w.heap.size w w' := by
  have HA : Hid (∀ W, Below w.heap.size w W → Calls Tryz.prog 80 #[y.modV, .string x.mod.name] W fun e w' => e = .returned (.bool (nxUse x.mod y.mod)) ∧ Below W.heap.size W w') := fun W hb => asks_any y.mod y.modV x.mod.name W (((hy.below hb).more hb.size).isMod)
  obtain ⟨⟨pe, ke, e4, _⟩, ⟨pi, ki, e5, _⟩, ⟨pp, kp, e6, _⟩⟩ := hx
  obtain ⟨⟨ye, je, f4, _⟩, ⟨yi, ji, f5, _⟩, ⟨yp, jp, f6, _⟩⟩ := hy
  generalize nxUse x.mod y.mod = t at *
  obtain ⟨⟨N, ma, mi, T, es, is, ps⟩, ve, vi, vp, fi⟩ := x
  obtain ⟨⟨N', ma', mi', T', es', is', ps'⟩, ve', vi', vp', fi'⟩ := y
  dsimp only at e4 e5 e6 f4 f5 f6
  subst e4 e5 e6 f4 f5 f6
  dsimp only [PV.modV] at *
  generalize es.length = le at *
  generalize is.length = li at *
  generalize ps.length = lp at *
  generalize es'.length = le' at *
  generalize is'.length = li' at *
  generalize ps'.length = lp' at *
  have HB : Hid (Below w.heap.size w ((w.alloc (.cells #[.string N, .int .i64 ma, .int .i64 mi, .string T, .slice pe le ke, .slice pi li ki, .slice pp lp kp] 31)).alloc (.cells #[.string N', .int .i64 ma', .int .i64 mi', .string T', .slice ye le' je, .slice yi li' ji, .slice yp lp' jp] 31))) := ((Below.refl _ _).alloc (Nat.le_refl _) _).alloc (by simp) _
  go_enter Tryz.func79, Tryz.ntmps79
  go_wp2_with fail
  refine (HA.out _ HB.out).mono ?_
  rintro e w2 ⟨rfl, b2⟩
  have B2 := HB.out.trans (b2.mono HB.out.size)
  clear HA HB b2
  go_wp2
  go_ret
  exact ⟨rfl, B2⟩

set_option maxHeartbeats 1000000 in
theorem users_any (l : List PV) (v : Value) (name : ByteArray) (w : World) (hrow : IsPlcs w.heap.size w v l) (hfit : ∀ x ∈ l, x.mod.fits) :
    Calls Tryz.prog 37 #[v, .string name] w fun e w' => (∃ r ss, e = .returned (.tuple #[r, .int .i64 (comeErr (l.map PV.plc) name)]) ∧ RowOf 1 strCell w'.heap.size w' r ss ∧ ComeRes nxUse (l.map PV.plc) name ss) ∧ Below w.heap.size w w' := by
  have HC := comeTo_any nxUse 79 (fun w x y => enters_of Tryz.func79 (by kernel_rfl) rfl _ w) l v name w hrow hfit (fun x hx y hy W hb => users1_any x y W (((hrow.2 x hx).below hb).more hb.size) (((hrow.2 y hy).below hb).more hb.size))
  obtain ⟨⟨a, cap, rfl, _, _⟩, _⟩ := hrow
  generalize comeErr (l.map PV.plc) name = R at *
  generalize ComeRes nxUse (l.map PV.plc) name = CR at *
  generalize l.length = ll at *
  go_enter Tryz.func37, Tryz.ntmps37
  go_wp2_with fail
  refine HC.mono ?_
  rintro e w2 ⟨⟨r, ss, rfl, hr, hs⟩, b2⟩
  have HR : Hid (RowOf 1 strCell w2.heap.size w2 r ss ∧ CR ss) := ⟨hr, hs⟩
  clear HC hr hs
  go_wp2
  go_ret2
  exact ⟨⟨r, ss, rfl, HR.out.1, HR.out.2⟩, b2⟩

end Go.Proofs.YthmohjgdcjafkaeGreat

/- What must be in any case, of graphs; rows of texts. -/
namespace Go.Proofs.YthmohjgdcjafkaeGreat
open Go.RowKit Go.PlainAid

set_option maxRecDepth 100000

def appN : ByteArray := ⟨#[97, 112, 112]⟩
def libN : ByteArray := ⟨#[108, 105, 98]⟩
theorem chk_pairG : chkGraph pairL = 0 := by kernel_rfl
theorem err_app : comeErr pairL appN = 0 := by kernel_rfl
theorem err_lib : comeErr pairL libN = 0 := by kernel_rfl
theorem next_need {i k : Nat} : Next nxNeed [appM, libM] i k ↔ i = 0 ∧ k = 1 := by
  have e00 : nxNeed appM appM = false := by kernel_rfl
  have e01 : nxNeed appM libM = true := by kernel_rfl
  have e1 : ∀ m, nxNeed libM m = false := fun m => by rfl
  constructor
  · rintro ⟨x, y, hx, hy, h⟩
    have hi : i = 0 ∨ i = 1 := by have := (List.getElem?_eq_some_iff.1 hx).1; simp at this; omega
    have hk : k = 0 ∨ k = 1 := by have := (List.getElem?_eq_some_iff.1 hy).1; simp at this; omega
    rcases hi with rfl | rfl
    · rcases hk with rfl | rfl
      · injection hx with hx
        injection hy with hy
        subst hx hy
        rw [e00] at h
        cases h
      · exact ⟨rfl, rfl⟩
    · injection hx with hx
      subst hx
      rw [e1] at h
      cases h
  · rintro ⟨rfl, rfl⟩
    exact ⟨appM, libM, rfl, rfl, e01⟩
theorem via_need {i k : Nat} : Via (Next nxNeed [appM, libM]) i k ↔ i = 0 ∧ k = 1 := by
  constructor
  · intro h
    exact h.walk (M := fun k => i = 0 ∧ k = 1) (fun _ e => next_need.1 e) (fun _ _ _ ih e => by have := next_need.1 e; omega)
  · exact fun h => .one (next_need.2 h)
theorem name_pair {f : Nat} (hf : f < 2) : nameAt [appM, libM] f = if f = 0 then appN else libN := by
  have : f = 0 ∨ f = 1 := by omega
  rcases this with rfl | rfl <;> rfl
theorem app_lib : appN ≠ libN := by
  intro h
  have := congrArg ByteArray.size h
  have h2 := congrArg (fun b : ByteArray => b.data.toList) h
  exact absurd h2 (by decide)
theorem come_app {ss : List ByteArray} (h : ComeRes nxNeed pairL appN ss) : ss = [libN] := by
  rcases h with ⟨h, _⟩ | ⟨_, f, hf, hn, hr, hm⟩
  · exact absurd err_app h
  have hf2 : f < 2 := hf
  rw [show pairL.map (·.mod) = [appM, libM] from rfl] at hn hm
  rw [name_pair hf2] at hn
  have h0 : f = 0 := by
    by_cases e : f = 0
    · exact e
    · rw [if_neg e] at hn; exact absurd hn.symm app_lib
  subst h0
  refine Rising.same hr (by simp [Rising]) (fun x => ?_)
  rw [hm]
  constructor
  · rintro ⟨k, hk, rfl⟩
    obtain ⟨_, rfl⟩ := via_need.1 hk
    simp [name_pair]
  · intro hx
    obtain rfl : x = libN := by simpa using hx
    exact ⟨1, via_need.2 ⟨rfl, rfl⟩, rfl⟩
theorem come_lib {ss : List ByteArray} (h : ComeRes nxUse pairL libN ss) : ss = [appN] := by
  rcases h with ⟨h, _⟩ | ⟨_, f, hf, hn, hr, hm⟩
  · exact absurd err_lib h
  have hf2 : f < 2 := hf
  rw [show pairL.map (·.mod) = [appM, libM] from rfl] at hn hm
  rw [name_pair hf2] at hn
  have h0 : f = 1 := by
    by_cases e : f = 0
    · rw [if_pos e] at hn; exact absurd hn app_lib
    · omega
  subst h0
  refine Rising.same hr (by simp [Rising]) (fun x => ?_)
  rw [hm]
  constructor
  · rintro ⟨k, hk, rfl⟩
    obtain ⟨rfl, _⟩ := via_need.1 (via_turn.1 hk)
    simp [name_pair]
  · intro hx
    obtain rfl : x = appN := by simpa using hx
    exact ⟨0, via_turn.2 (via_need.2 ⟨rfl, rfl⟩), rfl⟩
theorem ord_pair : ordOf pairL = ([libN, appN], 0) := by
  unfold ordOf
  rw [if_neg (by rw [chk_pairG]; exact fun h => h rfl)]
  have hr : risen pairL = [appM, libM] := by
    unfold risen
    refine List.mergeSort_of_pairwise ?_
    show List.Pairwise _ [appM, libM]
    rw [List.pairwise_cons]
    refine ⟨fun x hx => ?_, by simp⟩
    obtain rfl : x = libM := by simpa using hx
    show decide (appM.name.data.toList ≤ libM.name.data.toList) = true
    decide
  rw [hr]
  exact ordRes_some (by kernel_rfl)

end Go.Proofs.YthmohjgdcjafkaeGreat

/- What must be in any case, of images. -/
namespace Go.Proofs.YthmohjgdcjafkaeGreat
open Go.RowKit Go.PlainAid

set_option maxRecDepth 100000

theorem lnB_i2 : (imageOf kernK pairL ⟨#[97, 112, 112]⟩).2 = 0 := by kernel_rfl
theorem lnB_is : (imageOf kernK pairL ⟨#[97, 112, 112]⟩).1.size = 64 := by kernel_rfl
theorem lnB_i9 : (imageOf kernK pairL ⟨#[97, 112, 112]⟩).1.extract 0 9 = ⟨#[5, 17, 0, 0, 223, 247, 255, 46, 255]⟩ := by kernel_rfl
theorem lnB_a2 : (areaOf kernK pairL).2 = 0 := by kernel_rfl
theorem lnB_as : (areaOf kernK pairL).1.size = 1024 := by kernel_rfl
theorem lnB_a64 : (areaOf kernK pairL).1.extract 64 128 = (imageOf kernK pairL ⟨#[97, 112, 112]⟩).1 := by kernel_rfl
theorem lnB_a256 : (areaOf kernK pairL).1.extract 256 265 = ⟨#[97, 98, 99, 100, 101, 102, 103, 104, 255]⟩ := by kernel_rfl

end Go.Proofs.YthmohjgdcjafkaeGreat

/- What must be in any case, of registries. -/
namespace Go.Proofs.YthmohjgdcjafkaeGreat
open Go.RowKit Go.PlainAid Go.Lib

set_option maxRecDepth 100000

theorem sets4 {W : World} {B : Nat} {t : TypeId} {a0 a1 a2 a3 : Value} (h : CellsAt W B t #[a0, a1, a2, a3]) (v0 v1 v2 v3 : Value) :
    CellsAt ((((W.setCell ⟨B, 0, none⟩ v0).setCell ⟨B, 1, none⟩ v1).setCell ⟨B, 2, none⟩ v2).setCell ⟨B, 3, none⟩ v3) B t #[v0, v1, v2, v3] := by
  have h3 := CellsAt.set 3 v3 (CellsAt.set 2 v2 (CellsAt.set 1 v1 (CellsAt.set 0 v0 h)))
  simp only [List.setIfInBounds_toArray, List.set_cons_zero, List.set_cons_succ] at h3
  exact h3
theorem sets4_grown (W : World) (B : Nat) (v0 v1 v2 v3 : Value) :
    W.grownBy ((((W.setCell ⟨B, 0, none⟩ v0).setCell ⟨B, 1, none⟩ v1).setCell ⟨B, 2, none⟩ v2).setCell ⟨B, 3, none⟩ v3) (some B) :=
  ((((grown_set W B 0 v0).trans (grown_set _ B 1 v1)).trans (grown_set _ B 2 v2)).trans (grown_set _ B 3 v3))

/-- A row that a block's cells can't be stays as it is when that block is turned. -/
theorem RowOf.apart {α : Type} {sz : Nat} {cells : α → Nat → Value} {n : Nat} {W W' : World} {v : Value} {l : List α} (h : RowOf sz cells n W v l) {B : Nat} (hg : W.grownBy W' (some B)) (hn : n ≤ W.heap.size)
    (hne : ∀ off x, x ∈ l → ¬ (∀ i, i < sz → W.cell? ⟨B, off + i, none⟩ = some (cells x i))) : RowOf sz cells n W' v l := by
  obtain ⟨a, cap, e, hl, h | ⟨b, off, e2, hlt, hc⟩⟩ := h
  · exact ⟨a, cap, e, hl, .inl h⟩
  · refine ⟨a, cap, e, hl, ?_⟩
    cases l with
    | nil => exact .inl rfl
    | cons x0 r =>
      have hbB : b ≠ B := by
        rintro rfl
        refine hne off x0 (by simp) fun i hi => ?_
        have := hc 0 x0 rfl i hi
        rwa [Nat.zero_mul, Nat.add_zero] at this
      refine .inr ⟨b, off, e2, hlt, fun j x hj i hi => ?_⟩
      have hblk := hg.block b (by omega) (fun e => hbB (Option.some.inj e))
      have h1 := hc j x hj i hi
      unfold World.cell? at h1 ⊢
      dsimp only at h1 ⊢
      rw [hblk]
      exact h1
/-- The cells of a registry of nothing. -/
theorem zreg_cells {W : World} {B : Nat} {t : TypeId} (h : CellsAt W B t #[.int .i64 0, .int .i64 0, .slice none 0 0, .slice none 0 0]) (off : Nat) :
    (∀ s, W.cell? ⟨B, off, none⟩ ≠ some (.string s)) ∧ ∀ a b c, W.cell? ⟨B, off, none⟩ = some (.int .i64 a) → W.cell? ⟨B, off + 1, none⟩ = some (.int .i64 b) → W.cell? ⟨B, off + 2, none⟩ ≠ some (.int .i64 c) := by
  have c0 := h.cell off
  have c1 := h.cell (off + 1)
  have c2 := h.cell (off + 2)
  rw [c0, c1, c2]
  match off with
  | 0 => simp
  | 1 => simp
  | 2 => simp
  | 3 => simp
  | k + 4 => simp
theorem IsReg.apart {n : Nat} {W W' : World} {v : Value} {K : Ker} {l : List PV} (h : IsReg n W v K l) {B : Nat} {t : TypeId} (hg : W.grownBy W' (some B)) (hn : n ≤ W.heap.size) (hB : CellsAt W B t #[.int .i64 0, .int .i64 0, .slice none 0 0, .slice none 0 0]) : IsReg n W' v K l := by
  obtain ⟨ve, vl, e, h1, h2, h3⟩ := h
  refine ⟨ve, vl, e, h1.apart hg hn ?_, h2.apart hg hn ?_, fun x hx => ?_⟩
  · intro off x _ hc
    exact (zreg_cells hB off).1 _ (hc 0 (by omega))
  · intro off x _ hc
    exact (zreg_cells hB off).1 _ (hc 0 (by omega))
  · obtain ⟨g1, g2, g3⟩ := h3 x hx
    refine ⟨g1.apart hg hn ?_, g2.apart hg hn ?_, g3.apart hg hn ?_⟩
    · intro off x _ hc
      exact (zreg_cells hB off).1 _ (hc 0 (by omega))
    · intro off x _ hc
      exact (zreg_cells hB off).1 _ (hc 0 (by omega))
    · intro off x _ hc
      exact (zreg_cells hB off).2 _ _ _ (hc 0 (by omega)) (hc 1 (by omega)) (hc 2 (by omega))

set_option maxHeartbeats 4000000 in
theorem reg_any (w : World) : Calls Tryz.prog 51 #[] w fun e w' => ∃ v l, e = .returned v ∧ l.map PV.plc = pairL ∧ IsReg w'.heap.size w' v kernK l ∧ Below w.heap.size w w' := by
  have C1 : CellsAt (w.alloc (.cells #[.int .i64 0, .int .i64 0, .slice none 0 0, .slice none 0 0] 27)) w.heap.size 27 #[.int .i64 0, .int .i64 0, .slice none 0 0, .slice none 0 0] := CellsAt.new w 27 #[.int .i64 0, .int .i64 0, .slice none 0 0, .slice none 0 0]
  have B1 : Below w.heap.size w (w.alloc (.cells #[.int .i64 0, .int .i64 0, .slice none 0 0, .slice none 0 0] 27)) := (Below.refl _ _).alloc (Nat.le_refl _) _
  go_enter Tryz.func51, Tryz.ntmps51
  go_wp2_with fail
  refine (kernelFn_any _).mono ?_
  rintro e w1 ⟨vk, rfl, hK, b1⟩
  replace C1 := C1.below b1 C1.lt
  replace B1 := B1.trans (b1.mono B1.size)
  go_wp2_with fail
  refine (pair_any _).mono ?_
  rintro e w2 ⟨v, l, rfl, hl, hP, b2⟩
  replace C1 := C1.below b2 C1.lt
  replace B1 := B1.trans (b2.mono B1.size)
  have hK2 := (hK.below b2).more b2.size
  obtain ⟨ve, rfl, hE⟩ := hK2
  have hR : IsReg w2.heap.size w2 (.agg #[.int .i64 kernK.major, .int .i64 kernK.minor, ve, v]) kernK l := ⟨ve, v, rfl, hE, hP⟩
  obtain ⟨pe, ke, rfl, _⟩ := hE
  have hP' := hP.1
  obtain ⟨pl, kl, rfl, _⟩ := hP'
  have q0 := C1.cell 0
  have q1 := C1.cell 1
  have q2 := C1.cell 2
  have q3 := C1.cell 3
  have f0 := C1.frozen 0
  have f1 := C1.frozen 1
  have f2 := C1.frozen 2
  have f3 := C1.frozen 3
  have hq := C1.lt
  simp at q0 q1 q2 q3
  have HC1 : Hid _ := C1
  have HB1 : Hid _ := B1
  have HR : Hid _ := hR
  have HL : Hid _ := hl
  clear hP hl hR hK b1 b2 B1 C1
  dsimp only [kernK] at *
  go_wp2
  clear q0 q1 q2 q3 f0 f1 f2 f3
  have hF := sets4 (W := w2) (B := w.heap.size) (t := 27) HC1.out (.int .i64 0) (.int .i64 0) (.slice pe 1 ke) (.slice pl l.length kl)
  have hG := sets4_grown w2 w.heap.size (.int .i64 0) (.int .i64 0) (.slice pe 1 ke) (.slice pl l.length kl)
  (try simp only [Exit.inBlock, Exit.then])
  refine bodyPost_ret (results_cell_row rfl _ _ _ _ _ _ _ rfl hF Tryz.underlying27 rfl (by kernel_rfl)) rfl ?_
  refine ⟨_, l, rfl, HL.out, ?_, HB1.out.grown hG HB1.out.size (fun k e => by obtain rfl := Option.some.inj e; exact Nat.le_refl _)⟩
  exact (IsReg.apart (n := w2.heap.size) (W := w2) (v := .agg #[.int .i64 0, .int .i64 0, .slice pe 1 ke, .slice pl l.length kl]) (K := kernK) (l := l) (t := 27) HR.out hG (Nat.le_refl _) HC1.out).more hG.size

def emptyK : Ker := ⟨0, 0, []⟩
def noN : ByteArray := ⟨#[110, 111]⟩
theorem rgB_k1 : chkLink kernK pairL = 0 := by kernel_rfl
theorem rgB_k2 : chkLink emptyK pairL = 0 := by kernel_rfl
theorem rgB_a2 : (areaOf emptyK pairL).2 = 5 := by kernel_rfl
theorem rgB_c : chkRg kernK pairL = 0 := by
  unfold chkRg
  rw [rgB_k1, ord_pair, if_neg (by decide), if_neg (by decide)]
  exact lnB_a2
theorem rgB_e : chkRg emptyK pairL = 5 := by
  unfold chkRg
  rw [rgB_k2, ord_pair, if_neg (by decide), if_neg (by decide)]
  exact rgB_a2
theorem rgB_fl : (pairL.find? fun p => p.mod.name == libN).map (fun p => p.first) = some 4 := by kernel_rfl
theorem rgB_fn : (pairL.find? fun p => p.mod.name == noN).isNone = true := by kernel_rfl
theorem rgB_l : (rgFind kernK pairL libN).2 = 0 ∧ (rgFind kernK pairL libN).1.first = 4 := by
  have h := rgB_fl
  unfold rgFind
  rw [if_neg (by rw [rgB_c]; decide)]
  cases hf : pairL.find? fun p => p.mod.name == libN with
  | none => rw [hf] at h; cases h
  | some p =>
    rw [hf] at h
    exact ⟨rfl, Option.some.inj h⟩
theorem rgB_n : (rgFind kernK pairL noN).2 = 5 := by
  have h := rgB_fn
  unfold rgFind
  rw [if_neg (by rw [rgB_c]; decide)]
  cases hf : pairL.find? fun p => p.mod.name == noN with
  | none => rfl
  | some p => rw [hf] at h; cases h

/-- A placed module that came, as a value. -/
theorem OwnsPlc.form {base : Nat} {W : World} {y : PV} (h : OwnsPlc base W y) : ∃ a1 n1 c1 a2 n2 c2 a3 n3 c3, y.val = .agg #[.string y.mod.name, .int .i64 y.mod.major, .int .i64 y.mod.minor, .string y.mod.text, .slice a1 n1 c1, .slice a2 n2 c2, .slice a3 n3 c3, .int .i64 y.first] := by
  obtain ⟨o1, o2, o3⟩ := h
  obtain ⟨a1, c1, e1⟩ := own_form o1
  obtain ⟨a2, c2, e2⟩ := own_form o2
  obtain ⟨a3, c3, e3⟩ := own_form o3
  exact ⟨a1, _, c1, a2, _, c2, a3, _, c3, by unfold PV.val; rw [e1, e2, e3]⟩

set_option maxHeartbeats 8000000 in
theorem registryBegun_any (w : World) : Calls Tryz.prog 18 #[] w fun e w' => e = .returned (.bool true) ∧ Below w.heap.size w w' := by
  have HFL : Hid (∀ l v W, l.map PV.plc = pairL → IsReg W.heap.size W v kernK l → Calls Tryz.prog 54 #[v, .string ⟨#[108, 105, 98]⟩] W fun e w' => (∃ N a b T a1 n1 c1 a2 n2 c2 a3 n3 c3, e = .returned (.tuple #[.agg #[.string N, .int .i64 a, .int .i64 b, .string T, .slice a1 n1 c1, .slice a2 n2 c2, .slice a3 n3 c3, .int .i64 4], .int .i64 0])) ∧ Below W.heap.size W w') := fun l v W hl hR => by
    refine (regFind_any kernK l v libN W hR kern_fits (pair_fits hl)).mono ?_
    rintro e w' ⟨⟨y, rfl, hy, hO⟩, hb⟩
    rw [hl] at hy ⊢
    obtain ⟨a1, n1, c1, a2, n2, c2, a3, n3, c3, e⟩ := hO.form
    have hf : y.first = 4 := by rw [← rgB_l.2, ← hy]; rfl
    exact ⟨⟨_, _, _, _, _, _, _, _, _, _, _, _, _, by rw [e, hf, rgB_l.1]⟩, hb⟩
  have HFN : Hid (∀ l v W, l.map PV.plc = pairL → IsReg W.heap.size W v kernK l → Calls Tryz.prog 54 #[v, .string ⟨#[110, 111]⟩] W fun e w' => (∃ N a b T a1 n1 c1 a2 n2 c2 a3 n3 c3 f, e = .returned (.tuple #[.agg #[.string N, .int .i64 a, .int .i64 b, .string T, .slice a1 n1 c1, .slice a2 n2 c2, .slice a3 n3 c3, .int .i64 f], .int .i64 5])) ∧ Below W.heap.size W w') := fun l v W hl hR => by
    refine (regFind_any kernK l v noN W hR kern_fits (pair_fits hl)).mono ?_
    rintro e w' ⟨⟨y, rfl, hy, hO⟩, hb⟩
    rw [hl] at hy ⊢
    obtain ⟨a1, n1, c1, a2, n2, c2, a3, n3, c3, e⟩ := hO.form
    exact ⟨⟨_, _, _, _, _, _, _, _, _, _, _, _, _, _, by rw [e, rgB_n]⟩, hb⟩
  have HC : Hid (∀ l v W, l.map PV.plc = pairL → IsReg W.heap.size W v kernK l → Calls Tryz.prog 19 #[v] W fun e w' => e = .returned (.int .i64 0) ∧ Below W.heap.size W w') := fun l v W hl hR => by
    have := regCheck_any kernK l v W hR kern_fits (pair_fits hl)
    rw [hl, rgB_c] at this
    exact this
  have HE : Hid (∀ l a n c W, l.map PV.plc = pairL → IsPlcs W.heap.size W (.slice a n c) l → Calls Tryz.prog 19 #[.agg #[.int .i64 0, .int .i64 0, .slice none 0 0, .slice a n c]] W fun e w' => e = .returned (.int .i64 5) ∧ Below W.heap.size W w') := fun l a n c W hl hP => by
    have := regCheck_any emptyK l (.agg #[.int .i64 0, .int .i64 0, .slice none 0 0, .slice a n c]) W ⟨_, _, rfl, ⟨none, 0, rfl, by simp [emptyK], .inl rfl⟩, hP⟩ (fun e he => absurd he (by simp [emptyK])) (pair_fits hl)
    rw [hl, rgB_e] at this
    exact this
  go_enter Tryz.func18, Tryz.ntmps18
  go_wp2_with fail
  refine (reg_any _).mono ?_
  rintro e w1 ⟨v, l, rfl, hl, hR, B⟩
  go_wp2_with fail
  refine (HFL.out l v _ hl hR).mono ?_
  rintro e w2 ⟨⟨N, a, b, T, a1, n1, c1, a2, n2, c2, a3, n3, c3, rfl⟩, b2⟩
  replace B := B.trans (b2.mono B.size)
  have B3 := B.alloc B.size (.cells #[.string N, .int .i64 a, .int .i64 b, .string T, .slice a1 n1 c1, .slice a2 n2 c2, .slice a3 n3 c3, .int .i64 4] 54)
  have C3 := CellsAt.new w2 54 #[.string N, .int .i64 a, .int .i64 b, .string T, .slice a1 n1 c1, .slice a2 n2 c2, .slice a3 n3 c3, .int .i64 4]
  have HB3 : Hid _ := B3
  have HC3 : Hid _ := C3
  clear hl hR b2 B B3 C3 HFL
  go_wp2_with fail
  refine (reg_any _).mono ?_
  have B := HB3.out
  have C := HC3.out
  clear HB3 HC3
  generalize w2.alloc (.cells #[.string N, .int .i64 a, .int .i64 b, .string T, .slice a1 n1 c1, .slice a2 n2 c2, .slice a3 n3 c3, .int .i64 4] 54) = w3 at B C ⊢
  generalize w2.heap.size = Bx at C ⊢
  rintro e w4 ⟨v, l, rfl, hl, hR, b⟩
  replace C := CellsAt.below C b (CellsAt.lt C)
  replace B := B.trans (b.mono B.size)
  clear b
  go_wp2_with fail
  refine (HFN.out l v _ hl hR).mono ?_
  rintro e w5 ⟨⟨N', a', b', T', a1', n1', c1', a2', n2', c2', a3', n3', c3', f', rfl⟩, b2⟩
  replace C := CellsAt.below C b2 (CellsAt.lt C)
  replace B := B.trans (b2.mono B.size)
  have B3 := B.alloc B.size (.cells #[.string N', .int .i64 a', .int .i64 b', .string T', .slice a1' n1' c1', .slice a2' n2' c2', .slice a3' n3' c3', .int .i64 f'] 54)
  have C3 := CellsAt.kept C (World.grownBy_alloc w5 (.cells #[.string N', .int .i64 a', .int .i64 b', .string T', .slice a1' n1' c1', .slice a2' n2' c2', .slice a3' n3' c3', .int .i64 f'] 54) none) (by simp)
  have HB3 : Hid _ := B3
  have HC3 : Hid _ := C3
  clear hl hR b2 B B3 C C3 HFN
  go_wp2_with fail
  refine (reg_any _).mono ?_
  have B := HB3.out
  have C := HC3.out
  clear HB3 HC3
  generalize w5.alloc (.cells #[.string N', .int .i64 a', .int .i64 b', .string T', .slice a1' n1' c1', .slice a2' n2' c2', .slice a3' n3' c3', .int .i64 f'] 54) = w6 at B C ⊢
  rintro e w7 ⟨v, l, rfl, hl, hR, b⟩
  replace C := CellsAt.below C b (CellsAt.lt C)
  replace B := B.trans (b.mono B.size)
  clear b
  go_wp2_with fail
  refine (HC.out l v _ hl hR).mono ?_
  rintro e w8 ⟨rfl, b⟩
  replace C := CellsAt.below C b (CellsAt.lt C)
  replace B := B.trans (b.mono B.size)
  clear b hl hR HC
  go_wp2_with fail
  refine (pair_any _).mono ?_
  rintro e w9 ⟨v, l, rfl, hl, hP, b⟩
  replace C := CellsAt.below C b (CellsAt.lt C)
  replace B := B.trans (b.mono B.size)
  have hP' := hP.1
  obtain ⟨pl, kl, rfl, _⟩ := hP'
  clear b
  go_wp2_with fail
  refine (HE.out l _ _ _ _ hl hP).mono ?_
  rintro e w10 ⟨rfl, b⟩
  replace C := CellsAt.below C b (CellsAt.lt C)
  replace B := B.trans (b.mono B.size)
  clear b hl hP HE
  have q7 := CellsAt.cell C 7
  have hq := CellsAt.lt C
  simp at q7
  clear C
  go_wp2
  go_ret
  exact ⟨rfl, B⟩

end Go.Proofs.YthmohjgdcjafkaeGreat

/- An element of a row of one's own, stored anew. -/
namespace Go.Proofs.YthmohjgdcjafkaeGreat
open Go.RowKit Go.PlainAid Go.Lib

theorem flat_put {α : Type} {C : α → List Value} {sz : Nat} (hC : ∀ x, (C x).length = sz) : ∀ (l : List α) (k : Nat) (x y : α) (i : Nat) (u : Value), l[k]? = some x → i < sz → (C x).set i u = C y → (l.flatMap C).set (k * sz + i) u = (l.set k y).flatMap C
  | [], k, x, y, i, u, h, _, _ => by simp at h
  | z :: l, 0, x, y, i, u, h, hi, he => by
    obtain rfl : z = x := by simpa using h
    rw [List.flatMap_cons, Nat.zero_mul, Nat.zero_add, List.set_append_left _ _ (by rw [hC]; exact hi), he]
    rfl
  | z :: l, k + 1, x, y, i, u, h, hi, he => by
    have h' : l[k]? = some x := by simpa using h
    have hz := hC z
    rw [List.flatMap_cons, List.set_append_right _ _ (by rw [hz, Nat.succ_mul]; omega), hz, show (k + 1) * sz + i - sz = k * sz + i by rw [Nat.succ_mul]; omega, flat_put hC l k x y i u h' hi he]
    rfl
theorem set_at {l : List PV} {j : Nat} {x : PV} (hx : l[j]? = some x) (y : PV) : (l.set j y)[j]? = some y := by
  rw [List.getElem?_set_self (List.getElem?_eq_some_iff.1 hx).1]
/-- A placed module where another one lay. -/
theorem own_put {W : World} {base g n cap : Nat} {l : List PV} {j : Nat} {x : PV} (h : W.ownsRow base 54 8 (.slice (some ⟨g, 0, none⟩) n cap) n (l.flatMap pvC)) (hx : l[j]? = some x) (y : PV) :
    ((((((((W.setCell ⟨g, j * 8, none⟩ (.string y.mod.name)).setCell ⟨g, j * 8 + 1, none⟩ (.int .i64 y.mod.major)).setCell ⟨g, j * 8 + 2, none⟩ (.int .i64 y.mod.minor)).setCell ⟨g, j * 8 + 3, none⟩ (.string y.mod.text)).setCell ⟨g, j * 8 + 4, none⟩ y.ve).setCell ⟨g, j * 8 + 5, none⟩ y.vi).setCell ⟨g, j * 8 + 6, none⟩ y.vp).setCell ⟨g, j * 8 + 7, none⟩ (.int .i64 y.first)).ownsRow base 54 8 (.slice (some ⟨g, 0, none⟩) n cap) n ((l.set j y).flatMap pvC) ∧
    W.grownBy ((((((((W.setCell ⟨g, j * 8, none⟩ (.string y.mod.name)).setCell ⟨g, j * 8 + 1, none⟩ (.int .i64 y.mod.major)).setCell ⟨g, j * 8 + 2, none⟩ (.int .i64 y.mod.minor)).setCell ⟨g, j * 8 + 3, none⟩ (.string y.mod.text)).setCell ⟨g, j * 8 + 4, none⟩ y.ve).setCell ⟨g, j * 8 + 5, none⟩ y.vi).setCell ⟨g, j * 8 + 6, none⟩ y.vp).setCell ⟨g, j * 8 + 7, none⟩ (.int .i64 y.first)) (some g) := by
  obtain ⟨⟨N, a, b, T, es, is, ps⟩, ve, vi, vp, fi⟩ := y
  have F := fun (l : List PV) (x y : PV) (i : Nat) (u : Value) => flat_put (C := pvC) (sz := 8) (fun _ => rfl) l j x y i u
  obtain ⟨o0, g0⟩ := h.stored (j * 8) (.string N)
  obtain ⟨o1, g1⟩ := o0.stored (j * 8 + 1) (.int .i64 a)
  obtain ⟨o2, g2⟩ := o1.stored (j * 8 + 2) (.int .i64 b)
  obtain ⟨o3, g3⟩ := o2.stored (j * 8 + 3) (.string T)
  obtain ⟨o4, g4⟩ := o3.stored (j * 8 + 4) ve
  obtain ⟨o5, g5⟩ := o4.stored (j * 8 + 5) vi
  obtain ⟨o6, g6⟩ := o5.stored (j * 8 + 6) vp
  obtain ⟨o7, g7⟩ := o6.stored (j * 8 + 7) (.int .i64 fi)
  refine ⟨?_, (((((((g0.trans g1).trans g2).trans g3).trans g4).trans g5).trans g6).trans g7)⟩
  have e : ((((((((l.flatMap pvC).set (j * 8) (.string N)).set (j * 8 + 1) (.int .i64 a)).set (j * 8 + 2) (.int .i64 b)).set (j * 8 + 3) (.string T)).set (j * 8 + 4) ve).set (j * 8 + 5) vi).set (j * 8 + 6) vp).set (j * 8 + 7) (.int .i64 fi) = (l.set j ⟨⟨N, a, b, T, es, is, ps⟩, ve, vi, vp, fi⟩).flatMap pvC := by
    obtain ⟨⟨N', a', b', T', es', is', ps'⟩, ve', vi', vp', fi'⟩ := x
    have G : ∀ (x y : PV) (z : PV) (i : Nat) (u : Value), l[j]? = some x → i < 8 → (pvC z).set i u = pvC y → ((l.set j z).flatMap pvC).set (j * 8 + i) u = (l.set j y).flatMap pvC := fun x y z i u hx hi he => by
      rw [F (l.set j z) z y i u (set_at hx z) hi he, List.set_set]
    have s0 := F l _ ⟨⟨N, a', b', T', es', is', ps'⟩, ve', vi', vp', fi'⟩ 0 (.string N) hx (by omega) rfl
    rw [Nat.add_zero] at s0
    have s1 := G _ ⟨⟨N, a, b', T', es', is', ps'⟩, ve', vi', vp', fi'⟩ ⟨⟨N, a', b', T', es', is', ps'⟩, ve', vi', vp', fi'⟩ 1 (.int .i64 a) hx (by omega) rfl
    have s2 := G _ ⟨⟨N, a, b, T', es', is', ps'⟩, ve', vi', vp', fi'⟩ ⟨⟨N, a, b', T', es', is', ps'⟩, ve', vi', vp', fi'⟩ 2 (.int .i64 b) hx (by omega) rfl
    have s3 := G _ ⟨⟨N, a, b, T, es', is', ps'⟩, ve', vi', vp', fi'⟩ ⟨⟨N, a, b, T', es', is', ps'⟩, ve', vi', vp', fi'⟩ 3 (.string T) hx (by omega) rfl
    have s4 := G _ ⟨⟨N, a, b, T, es', is', ps'⟩, ve, vi', vp', fi'⟩ ⟨⟨N, a, b, T, es', is', ps'⟩, ve', vi', vp', fi'⟩ 4 ve hx (by omega) rfl
    have s5 := G _ ⟨⟨N, a, b, T, es', is', ps'⟩, ve, vi, vp', fi'⟩ ⟨⟨N, a, b, T, es', is', ps'⟩, ve, vi', vp', fi'⟩ 5 vi hx (by omega) rfl
    have s6 := G _ ⟨⟨N, a, b, T, es', is', ps'⟩, ve, vi, vp, fi'⟩ ⟨⟨N, a, b, T, es', is', ps'⟩, ve, vi, vp', fi'⟩ 6 vp hx (by omega) rfl
    have s7 := G _ ⟨⟨N, a, b, T, es, is, ps⟩, ve, vi, vp, fi⟩ ⟨⟨N, a, b, T, es', is', ps'⟩, ve, vi, vp, fi'⟩ 7 (.int .i64 fi) hx (by omega) rfl
    rw [s0, s1, s2, s3, s4, s5, s6, s7]
  rw [e] at o7
  exact o7

end Go.Proofs.YthmohjgdcjafkaeGreat
