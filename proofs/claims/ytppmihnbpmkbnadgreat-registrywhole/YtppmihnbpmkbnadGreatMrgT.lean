/- Texts that are laid together. -/
import Derived.Test.YtppmihnbpmkbnadGreatMrgS
import Derived.Test.YtppmihnbpmkbnadGreatMrgO
import Derived.Test.YtppmihnbpmkbnadGreatMrgR
import Derived.Test.YtppmihnbpmkbnadGreatMrgQ
import Derived.Test.YtppmihnbpmkbnadGreatMrgP

/- What must be in any case, of graphs; rows of texts. -/
namespace Go.Proofs.YtppmihnbpmkbnadGreat
open Go.RowKit Go.PlainAid

set_option maxRecDepth 100000

set_option maxHeartbeats 1000000 in
theorem sameTexts_yes (l : List ByteArray) (v v' : Value) (w : World) (h1 : RowOf 1 strCell w.heap.size w v l) (h2 : RowOf 1 strCell w.heap.size w v' l) :
    Calls Tryz.prog 56 #[v, v'] w fun e w' => e = .returned (.bool true) ∧ Below w.heap.size w w' := by
  obtain ⟨a, cap, rfl, hz, h1⟩ := h1
  obtain ⟨a', cap', rfl, _, h2⟩ := h2
  have hne : ((l.length : Int) != (l.length : Int)) = false := by simp
  go_enter Tryz.func56, Tryz.ntmps56
  go_wp2
  go_loopw [5] (fun i wr => ∃ (k : Nat), k ≤ l.length ∧ i = .int .i64 k ∧ Hid (∃ q, wr = w.drewN q)) (fun i _ => l.length - (intOf i).toNat)
  case atStart => exact ⟨0, Nat.zero_le _, rfl, (⟨0, rfl⟩ : ∃ q, w = w.drewN q)⟩
  case round =>
    obtain ⟨k, hk, rfl, HQ⟩ := hrel
    by_cases hlt : k < l.length
    · obtain ⟨p, hp⟩ : ∃ p, l[k]? = some p := ⟨_, List.getElem?_eq_getElem hlt⟩
      rcases h1 with h | ⟨b, off, rfl, hbn, hc⟩
      · subst h; simp at hlt
      rcases h2 with h | ⟨b', off', rfl, hbn', hc'⟩
      · subst h; simp at hlt
      have hcl : ∀ p, wr.cell? p = w.cell? p := fun p => by obtain ⟨q, hq⟩ := HQ.out; rw [hq]; simp
      have c0 := (hcl _).trans (hc k _ hp 0 (by omega))
      have d0 := (hcl _).trans (hc' k _ hp 0 (by omega))
      dsimp only [strCell] at c0 d0
      rw [Nat.add_zero, Nat.mul_one] at c0 d0
      clear hcl hc hc' hp
      go_wp2
      go_quiet (fail)
      go_wp2
      obtain ⟨q, hq⟩ := HQ.out
      exact ⟨⟨k + 1, by omega, by go_num, (⟨q + _, by rw [hq, World.drewN_drewN]⟩ : ∃ q, _ = w.drewN q)⟩, by simp [intOf]; omega⟩
    · go_wp2
      go_ret
      obtain ⟨q, hq⟩ := HQ.out
      exact ⟨rfl, by rw [hq]; exact below_drewN (Below.refl _ _) q⟩

def appN : ByteArray := ⟨#[97, 112, 112]⟩
def libN : ByteArray := ⟨#[108, 105, 98]⟩
theorem chk_pairG : chkGraph pairL = 0 := by kernel_rfl
theorem err_app : comeErr pairL appN = 0 := by kernel_rfl
theorem err_lib : comeErr pairL libN = 0 := by kernel_rfl
theorem next_need {i k : Nat} : Next nxNeed [appM, libM] i k ↔ i = 0 ∧ k = 1 := by
  have e00 : nxNeed appM appM = false := by kernel_rfl
  have e01 : nxNeed appM libM = true := by kernel_rfl
  have e1 : ∀ m, nxNeed libM m = false := fun m => by rfl
  constructor
  · rintro ⟨x, y, hx, hy, h⟩
    have hi : i = 0 ∨ i = 1 := by have := (List.getElem?_eq_some_iff.1 hx).1; simp at this; omega
    have hk : k = 0 ∨ k = 1 := by have := (List.getElem?_eq_some_iff.1 hy).1; simp at this; omega
    rcases hi with rfl | rfl
    · rcases hk with rfl | rfl
      · injection hx with hx
        injection hy with hy
        subst hx hy
        rw [e00] at h
        cases h
      · exact ⟨rfl, rfl⟩
    · injection hx with hx
      subst hx
      rw [e1] at h
      cases h
  · rintro ⟨rfl, rfl⟩
    exact ⟨appM, libM, rfl, rfl, e01⟩
theorem via_need {i k : Nat} : Via (Next nxNeed [appM, libM]) i k ↔ i = 0 ∧ k = 1 := by
  constructor
  · intro h
    exact h.walk (M := fun k => i = 0 ∧ k = 1) (fun _ e => next_need.1 e) (fun _ _ _ ih e => by have := next_need.1 e; omega)
  · exact fun h => .one (next_need.2 h)
theorem name_pair {f : Nat} (hf : f < 2) : nameAt [appM, libM] f = if f = 0 then appN else libN := by
  have : f = 0 ∨ f = 1 := by omega
  rcases this with rfl | rfl <;> rfl
theorem app_lib : appN ≠ libN := by
  intro h
  have := congrArg ByteArray.size h
  have h2 := congrArg (fun b : ByteArray => b.data.toList) h
  exact absurd h2 (by decide)
theorem come_app {ss : List ByteArray} (h : ComeRes nxNeed pairL appN ss) : ss = [libN] := by
  rcases h with ⟨h, _⟩ | ⟨_, f, hf, hn, hr, hm⟩
  · exact absurd err_app h
  have hf2 : f < 2 := hf
  rw [show pairL.map (·.mod) = [appM, libM] from rfl] at hn hm
  rw [name_pair hf2] at hn
  have h0 : f = 0 := by
    by_cases e : f = 0
    · exact e
    · rw [if_neg e] at hn; exact absurd hn.symm app_lib
  subst h0
  refine Rising.same hr (by simp [Rising]) (fun x => ?_)
  rw [hm]
  constructor
  · rintro ⟨k, hk, rfl⟩
    obtain ⟨_, rfl⟩ := via_need.1 hk
    simp [name_pair]
  · intro hx
    obtain rfl : x = libN := by simpa using hx
    exact ⟨1, via_need.2 ⟨rfl, rfl⟩, rfl⟩
theorem come_lib {ss : List ByteArray} (h : ComeRes nxUse pairL libN ss) : ss = [appN] := by
  rcases h with ⟨h, _⟩ | ⟨_, f, hf, hn, hr, hm⟩
  · exact absurd err_lib h
  have hf2 : f < 2 := hf
  rw [show pairL.map (·.mod) = [appM, libM] from rfl] at hn hm
  rw [name_pair hf2] at hn
  have h0 : f = 1 := by
    by_cases e : f = 0
    · rw [if_pos e] at hn; exact absurd hn app_lib
    · omega
  subst h0
  refine Rising.same hr (by simp [Rising]) (fun x => ?_)
  rw [hm]
  constructor
  · rintro ⟨k, hk, rfl⟩
    obtain ⟨rfl, _⟩ := via_need.1 (via_turn.1 hk)
    simp [name_pair]
  · intro hx
    obtain rfl : x = appN := by simpa using hx
    exact ⟨0, via_turn.2 (via_need.2 ⟨rfl, rfl⟩), rfl⟩
theorem ord_pair : ordOf pairL = ([libN, appN], 0) := by
  unfold ordOf
  rw [if_neg (by rw [chk_pairG]; exact fun h => h rfl)]
  have hr : risen pairL = [appM, libM] := by
    unfold risen
    refine List.mergeSort_of_pairwise ?_
    show List.Pairwise _ [appM, libM]
    rw [List.pairwise_cons]
    refine ⟨fun x hx => ?_, by simp⟩
    obtain rfl : x = libM := by simpa using hx
    show decide (appM.name.data.toList ≤ libM.name.data.toList) = true
    decide
  rw [hr]
  exact ordRes_some (by kernel_rfl)

end Go.Proofs.YtppmihnbpmkbnadGreat

/- What must be in any case, of images. -/
namespace Go.Proofs.YtppmihnbpmkbnadGreat
open Go.RowKit Go.PlainAid

set_option maxRecDepth 100000

theorem lnB_i2 : (imageOf kernK pairL ⟨#[97, 112, 112]⟩).2 = 0 := by kernel_rfl
theorem lnB_is : (imageOf kernK pairL ⟨#[97, 112, 112]⟩).1.size = 64 := by kernel_rfl
theorem lnB_i9 : (imageOf kernK pairL ⟨#[97, 112, 112]⟩).1.extract 0 9 = ⟨#[5, 17, 0, 0, 223, 247, 255, 46, 255]⟩ := by kernel_rfl
theorem lnB_a2 : (areaOf kernK pairL).2 = 0 := by kernel_rfl
theorem lnB_as : (areaOf kernK pairL).1.size = 1024 := by kernel_rfl
theorem lnB_a64 : (areaOf kernK pairL).1.extract 64 128 = (imageOf kernK pairL ⟨#[97, 112, 112]⟩).1 := by kernel_rfl
theorem lnB_a256 : (areaOf kernK pairL).1.extract 256 265 = ⟨#[97, 98, 99, 100, 101, 102, 103, 104, 255]⟩ := by kernel_rfl

set_option maxHeartbeats 4000000 in
theorem linkBegun_any (w : World) : Calls Tryz.prog 15 #[] w fun e w' => e = .returned (.bool true) ∧ Below w.heap.size w w' := by
  obtain ⟨S, E, he⟩ : ∃ S E, imageOf kernK pairL ⟨#[97, 112, 112]⟩ = (S, E) := ⟨_, _, rfl⟩
  obtain ⟨T, F, hf⟩ : ∃ T F, areaOf kernK pairL = (T, F) := ⟨_, _, rfl⟩
  have i2 := lnB_i2
  have is := lnB_is
  have i9 := lnB_i9
  have a2 := lnB_a2
  have asz := lnB_as
  have a64 := lnB_a64
  have a256 := lnB_a256
  rw [he] at i2 is i9 a64
  rw [hf] at a2 asz a64 a256
  dsimp only at i2 is i9 a2 asz a64 a256
  subst i2 a2
  have HI : Hid (∀ vk l v W, l.map PV.plc = pairL → IsKer W.heap.size W vk kernK → IsPlcs W.heap.size W v l → Calls Tryz.prog 9 #[vk, v, .string ⟨#[97, 112, 112]⟩] W fun e w' => e = .returned (.tuple #[.string S, .int .i64 0]) ∧ Below W.heap.size W w') := fun vk l v W hl hK hP => by
    have := linkImage_any kernK vk l v ⟨#[97, 112, 112]⟩ W hK kern_fits hP (pair_fits hl)
    rw [hl, he] at this
    exact this
  have HA : Hid (∀ vk l v W, l.map PV.plc = pairL → IsKer W.heap.size W vk kernK → IsPlcs W.heap.size W v l → Calls Tryz.prog 10 #[vk, v] W fun e w' => e = .returned (.tuple #[.string T, .int .i64 0]) ∧ Below W.heap.size W w') := fun vk l v W hl hK hP => by
    have := linkArea_any kernK vk l v W hK kern_fits hP (pair_fits hl)
    rw [hl, hf] at this
    exact this
  clear he hf
  go_enter Tryz.func15, Tryz.ntmps15
  go_wp2_with fail
  refine (kernelFn_any _).mono ?_
  rintro e w1 ⟨vk, rfl, hK, b1⟩
  go_wp2_with fail
  refine (pair_any _).mono ?_
  rintro e w2 ⟨v, l, rfl, hl, hP, b2⟩
  have B2 := b1.trans (b2.mono b1.size)
  go_wp2_with fail
  refine (HI.out vk l v _ hl ((hK.below b2).more b2.size) hP).mono ?_
  rintro e w3 ⟨rfl, b3⟩
  have B3 := B2.trans (b3.mono B2.size)
  clear hK b1 hl hP b2 b3 B2 HI
  go_wp2_with fail
  refine (kernelFn_any _).mono ?_
  rintro e w4 ⟨vk2, rfl, hK, b1⟩
  go_wp2_with fail
  refine (pair_any _).mono ?_
  rintro e w5 ⟨v2, l2, rfl, hl, hP, b2⟩
  have B5 := B3.trans ((b1.trans (b2.mono b1.size)).mono B3.size)
  go_wp2_with fail
  refine (HA.out vk2 l2 v2 _ hl ((hK.below b2).more b2.size) hP).mono ?_
  rintro e w6 ⟨rfl, b3⟩
  have B6 := B5.trans (b3.mono B5.size)
  clear hK b1 hl hP b2 b3 B5 HA B3
  go_wp2
  go_ret
  exact ⟨rfl, B6⟩

end Go.Proofs.YtppmihnbpmkbnadGreat

/- What must be in any case, of registries. -/
namespace Go.Proofs.YtppmihnbpmkbnadGreat
open Go.RowKit Go.PlainAid Go.Lib

set_option maxRecDepth 100000

theorem sets4 {W : World} {B : Nat} {t : TypeId} {a0 a1 a2 a3 : Value} (h : CellsAt W B t #[a0, a1, a2, a3]) (v0 v1 v2 v3 : Value) :
    CellsAt ((((W.setCell ⟨B, 0, none⟩ v0).setCell ⟨B, 1, none⟩ v1).setCell ⟨B, 2, none⟩ v2).setCell ⟨B, 3, none⟩ v3) B t #[v0, v1, v2, v3] := by
  have h3 := CellsAt.set 3 v3 (CellsAt.set 2 v2 (CellsAt.set 1 v1 (CellsAt.set 0 v0 h)))
  simp only [List.setIfInBounds_toArray, List.set_cons_zero, List.set_cons_succ] at h3
  exact h3
theorem sets4_grown (W : World) (B : Nat) (v0 v1 v2 v3 : Value) :
    W.grownBy ((((W.setCell ⟨B, 0, none⟩ v0).setCell ⟨B, 1, none⟩ v1).setCell ⟨B, 2, none⟩ v2).setCell ⟨B, 3, none⟩ v3) (some B) :=
  ((((grown_set W B 0 v0).trans (grown_set _ B 1 v1)).trans (grown_set _ B 2 v2)).trans (grown_set _ B 3 v3))

/-- A row that a block's cells can't be stays as it is when that block is turned. -/
theorem RowOf.apart {α : Type} {sz : Nat} {cells : α → Nat → Value} {n : Nat} {W W' : World} {v : Value} {l : List α} (h : RowOf sz cells n W v l) {B : Nat} (hg : W.grownBy W' (some B)) (hn : n ≤ W.heap.size)
    (hne : ∀ off x, x ∈ l → ¬ (∀ i, i < sz → W.cell? ⟨B, off + i, none⟩ = some (cells x i))) : RowOf sz cells n W' v l := by
  obtain ⟨a, cap, e, hl, h | ⟨b, off, e2, hlt, hc⟩⟩ := h
  · exact ⟨a, cap, e, hl, .inl h⟩
  · refine ⟨a, cap, e, hl, ?_⟩
    cases l with
    | nil => exact .inl rfl
    | cons x0 r =>
      have hbB : b ≠ B := by
        rintro rfl
        refine hne off x0 (by simp) fun i hi => ?_
        have := hc 0 x0 rfl i hi
        rwa [Nat.zero_mul, Nat.add_zero] at this
      refine .inr ⟨b, off, e2, hlt, fun j x hj i hi => ?_⟩
      have hblk := hg.block b (by omega) (fun e => hbB (Option.some.inj e))
      have h1 := hc j x hj i hi
      unfold World.cell? at h1 ⊢
      dsimp only at h1 ⊢
      rw [hblk]
      exact h1
/-- The cells of a registry of nothing. -/
theorem zreg_cells {W : World} {B : Nat} {t : TypeId} (h : CellsAt W B t #[.int .i64 0, .int .i64 0, .slice none 0 0, .slice none 0 0]) (off : Nat) :
    (∀ s, W.cell? ⟨B, off, none⟩ ≠ some (.string s)) ∧ ∀ a b c, W.cell? ⟨B, off, none⟩ = some (.int .i64 a) → W.cell? ⟨B, off + 1, none⟩ = some (.int .i64 b) → W.cell? ⟨B, off + 2, none⟩ ≠ some (.int .i64 c) := by
  have c0 := h.cell off
  have c1 := h.cell (off + 1)
  have c2 := h.cell (off + 2)
  rw [c0, c1, c2]
  match off with
  | 0 => simp
  | 1 => simp
  | 2 => simp
  | 3 => simp
  | k + 4 => simp
theorem IsReg.apart {n : Nat} {W W' : World} {v : Value} {K : Ker} {l : List PV} (h : IsReg n W v K l) {B : Nat} {t : TypeId} (hg : W.grownBy W' (some B)) (hn : n ≤ W.heap.size) (hB : CellsAt W B t #[.int .i64 0, .int .i64 0, .slice none 0 0, .slice none 0 0]) : IsReg n W' v K l := by
  obtain ⟨ve, vl, e, h1, h2, h3⟩ := h
  refine ⟨ve, vl, e, h1.apart hg hn ?_, h2.apart hg hn ?_, fun x hx => ?_⟩
  · intro off x _ hc
    exact (zreg_cells hB off).1 _ (hc 0 (by omega))
  · intro off x _ hc
    exact (zreg_cells hB off).1 _ (hc 0 (by omega))
  · obtain ⟨g1, g2, g3⟩ := h3 x hx
    refine ⟨g1.apart hg hn ?_, g2.apart hg hn ?_, g3.apart hg hn ?_⟩
    · intro off x _ hc
      exact (zreg_cells hB off).1 _ (hc 0 (by omega))
    · intro off x _ hc
      exact (zreg_cells hB off).1 _ (hc 0 (by omega))
    · intro off x _ hc
      exact (zreg_cells hB off).2 _ _ _ (hc 0 (by omega)) (hc 1 (by omega)) (hc 2 (by omega))

set_option maxHeartbeats 4000000 in
theorem reg_any (w : World) : Calls Tryz.prog 48 #[] w fun e w' => ∃ v l, e = .returned v ∧ l.map PV.plc = pairL ∧ IsReg w'.heap.size w' v kernK l ∧ Below w.heap.size w w' := by
  have C1 : CellsAt (w.alloc (.cells #[.int .i64 0, .int .i64 0, .slice none 0 0, .slice none 0 0] 48)) w.heap.size 48 #[.int .i64 0, .int .i64 0, .slice none 0 0, .slice none 0 0] := CellsAt.new w 48 #[.int .i64 0, .int .i64 0, .slice none 0 0, .slice none 0 0]
  have B1 : Below w.heap.size w (w.alloc (.cells #[.int .i64 0, .int .i64 0, .slice none 0 0, .slice none 0 0] 48)) := (Below.refl _ _).alloc (Nat.le_refl _) _
  go_enter Tryz.func48, Tryz.ntmps48
  go_wp2_with fail
  refine (kernelFn_any _).mono ?_
  rintro e w1 ⟨vk, rfl, hK, b1⟩
  replace C1 := C1.below b1 C1.lt
  replace B1 := B1.trans (b1.mono B1.size)
  go_wp2_with fail
  refine (pair_any _).mono ?_
  rintro e w2 ⟨v, l, rfl, hl, hP, b2⟩
  replace C1 := C1.below b2 C1.lt
  replace B1 := B1.trans (b2.mono B1.size)
  have hK2 := (hK.below b2).more b2.size
  obtain ⟨ve, rfl, hE⟩ := hK2
  have hR : IsReg w2.heap.size w2 (.agg #[.int .i64 kernK.major, .int .i64 kernK.minor, ve, v]) kernK l := ⟨ve, v, rfl, hE, hP⟩
  obtain ⟨pe, ke, rfl, _⟩ := hE
  have hP' := hP.1
  obtain ⟨pl, kl, rfl, _⟩ := hP'
  have q0 := C1.cell 0
  have q1 := C1.cell 1
  have q2 := C1.cell 2
  have q3 := C1.cell 3
  have f0 := C1.frozen 0
  have f1 := C1.frozen 1
  have f2 := C1.frozen 2
  have f3 := C1.frozen 3
  have hq := C1.lt
  simp at q0 q1 q2 q3
  have HC1 : Hid _ := C1
  have HB1 : Hid _ := B1
  have HR : Hid _ := hR
  have HL : Hid _ := hl
  clear hP hl hR hK b1 b2 B1 C1
  dsimp only [kernK] at *
  go_wp2
  clear q0 q1 q2 q3 f0 f1 f2 f3
  have hF := sets4 (W := w2) (B := w.heap.size) (t := 48) HC1.out (.int .i64 0) (.int .i64 0) (.slice pe 1 ke) (.slice pl l.length kl)
  have hG := sets4_grown w2 w.heap.size (.int .i64 0) (.int .i64 0) (.slice pe 1 ke) (.slice pl l.length kl)
  (try simp only [Exit.inBlock, Exit.then])
  refine bodyPost_ret (results_cell_row rfl _ _ _ _ _ _ _ rfl hF Tryz.underlying48 rfl (by kernel_rfl)) rfl ?_
  refine ⟨_, l, rfl, HL.out, ?_, HB1.out.grown hG HB1.out.size (fun k e => by obtain rfl := Option.some.inj e; exact Nat.le_refl _)⟩
  exact (IsReg.apart (n := w2.heap.size) (W := w2) (v := .agg #[.int .i64 0, .int .i64 0, .slice pe 1 ke, .slice pl l.length kl]) (K := kernK) (l := l) (t := 48) HR.out hG (Nat.le_refl _) HC1.out).more hG.size

def emptyK : Ker := ⟨0, 0, []⟩
def noN : ByteArray := ⟨#[110, 111]⟩
theorem rgB_k1 : chkLink kernK pairL = 0 := by kernel_rfl
theorem rgB_k2 : chkLink emptyK pairL = 0 := by kernel_rfl
theorem rgB_a2 : (areaOf emptyK pairL).2 = 5 := by kernel_rfl
theorem rgB_c : chkRg kernK pairL = 0 := by
  unfold chkRg
  rw [rgB_k1, ord_pair, if_neg (by decide), if_neg (by decide)]
  exact lnB_a2
theorem rgB_e : chkRg emptyK pairL = 5 := by
  unfold chkRg
  rw [rgB_k2, ord_pair, if_neg (by decide), if_neg (by decide)]
  exact rgB_a2
theorem rgB_fl : (pairL.find? fun p => p.mod.name == libN).map (fun p => p.first) = some 4 := by kernel_rfl
theorem rgB_fn : (pairL.find? fun p => p.mod.name == noN).isNone = true := by kernel_rfl
theorem rgB_l : (rgFind kernK pairL libN).2 = 0 ∧ (rgFind kernK pairL libN).1.first = 4 := by
  have h := rgB_fl
  unfold rgFind
  rw [if_neg (by rw [rgB_c]; decide)]
  cases hf : pairL.find? fun p => p.mod.name == libN with
  | none => rw [hf] at h; cases h
  | some p =>
    rw [hf] at h
    exact ⟨rfl, Option.some.inj h⟩
theorem rgB_n : (rgFind kernK pairL noN).2 = 5 := by
  have h := rgB_fn
  unfold rgFind
  rw [if_neg (by rw [rgB_c]; decide)]
  cases hf : pairL.find? fun p => p.mod.name == noN with
  | none => rfl
  | some p => rw [hf] at h; cases h

/-- A placed module that came, as a value. -/
theorem OwnsPlc.form {base : Nat} {W : World} {y : PV} (h : OwnsPlc base W y) : ∃ a1 n1 c1 a2 n2 c2 a3 n3 c3, y.val = .agg #[.string y.mod.name, .int .i64 y.mod.major, .int .i64 y.mod.minor, .string y.mod.text, .slice a1 n1 c1, .slice a2 n2 c2, .slice a3 n3 c3, .int .i64 y.first] := by
  obtain ⟨o1, o2, o3⟩ := h
  obtain ⟨a1, c1, e1⟩ := own_form o1
  obtain ⟨a2, c2, e2⟩ := own_form o2
  obtain ⟨a3, c3, e3⟩ := own_form o3
  exact ⟨a1, _, c1, a2, _, c2, a3, _, c3, by unfold PV.val; rw [e1, e2, e3]⟩

set_option maxHeartbeats 8000000 in
theorem registryBegun_any (w : World) : Calls Tryz.prog 19 #[] w fun e w' => e = .returned (.bool true) ∧ Below w.heap.size w w' := by
  have HFL : Hid (∀ l v W, l.map PV.plc = pairL → IsReg W.heap.size W v kernK l → Calls Tryz.prog 17 #[v, .string ⟨#[108, 105, 98]⟩] W fun e w' => (∃ N a b T a1 n1 c1 a2 n2 c2 a3 n3 c3, e = .returned (.tuple #[.agg #[.string N, .int .i64 a, .int .i64 b, .string T, .slice a1 n1 c1, .slice a2 n2 c2, .slice a3 n3 c3, .int .i64 4], .int .i64 0])) ∧ Below W.heap.size W w') := fun l v W hl hR => by
    refine (regFind_any kernK l v libN W hR kern_fits (pair_fits hl)).mono ?_
    rintro e w' ⟨⟨y, rfl, hy, hO⟩, hb⟩
    rw [hl] at hy ⊢
    obtain ⟨a1, n1, c1, a2, n2, c2, a3, n3, c3, e⟩ := hO.form
    have hf : y.first = 4 := by rw [← rgB_l.2, ← hy]; rfl
    exact ⟨⟨_, _, _, _, _, _, _, _, _, _, _, _, _, by rw [e, hf, rgB_l.1]⟩, hb⟩
  have HFN : Hid (∀ l v W, l.map PV.plc = pairL → IsReg W.heap.size W v kernK l → Calls Tryz.prog 17 #[v, .string ⟨#[110, 111]⟩] W fun e w' => (∃ N a b T a1 n1 c1 a2 n2 c2 a3 n3 c3 f, e = .returned (.tuple #[.agg #[.string N, .int .i64 a, .int .i64 b, .string T, .slice a1 n1 c1, .slice a2 n2 c2, .slice a3 n3 c3, .int .i64 f], .int .i64 5])) ∧ Below W.heap.size W w') := fun l v W hl hR => by
    refine (regFind_any kernK l v noN W hR kern_fits (pair_fits hl)).mono ?_
    rintro e w' ⟨⟨y, rfl, hy, hO⟩, hb⟩
    rw [hl] at hy ⊢
    obtain ⟨a1, n1, c1, a2, n2, c2, a3, n3, c3, e⟩ := hO.form
    exact ⟨⟨_, _, _, _, _, _, _, _, _, _, _, _, _, _, by rw [e, rgB_n]⟩, hb⟩
  have HC : Hid (∀ l v W, l.map PV.plc = pairL → IsReg W.heap.size W v kernK l → Calls Tryz.prog 20 #[v] W fun e w' => e = .returned (.int .i64 0) ∧ Below W.heap.size W w') := fun l v W hl hR => by
    have := regCheck_any kernK l v W hR kern_fits (pair_fits hl)
    rw [hl, rgB_c] at this
    exact this
  have HE : Hid (∀ l a n c W, l.map PV.plc = pairL → IsPlcs W.heap.size W (.slice a n c) l → Calls Tryz.prog 20 #[.agg #[.int .i64 0, .int .i64 0, .slice none 0 0, .slice a n c]] W fun e w' => e = .returned (.int .i64 5) ∧ Below W.heap.size W w') := fun l a n c W hl hP => by
    have := regCheck_any emptyK l (.agg #[.int .i64 0, .int .i64 0, .slice none 0 0, .slice a n c]) W ⟨_, _, rfl, ⟨none, 0, rfl, by simp [emptyK], .inl rfl⟩, hP⟩ (fun e he => absurd he (by simp [emptyK])) (pair_fits hl)
    rw [hl, rgB_e] at this
    exact this
  go_enter Tryz.func19, Tryz.ntmps19
  go_wp2_with fail
  refine (reg_any _).mono ?_
  rintro e w1 ⟨v, l, rfl, hl, hR, B⟩
  go_wp2_with fail
  refine (HFL.out l v _ hl hR).mono ?_
  rintro e w2 ⟨⟨N, a, b, T, a1, n1, c1, a2, n2, c2, a3, n3, c3, rfl⟩, b2⟩
  replace B := B.trans (b2.mono B.size)
  have B3 := B.alloc B.size (.cells #[.string N, .int .i64 a, .int .i64 b, .string T, .slice a1 n1 c1, .slice a2 n2 c2, .slice a3 n3 c3, .int .i64 4] 41)
  have C3 := CellsAt.new w2 41 #[.string N, .int .i64 a, .int .i64 b, .string T, .slice a1 n1 c1, .slice a2 n2 c2, .slice a3 n3 c3, .int .i64 4]
  have HB3 : Hid _ := B3
  have HC3 : Hid _ := C3
  clear hl hR b2 B B3 C3 HFL
  go_wp2_with fail
  refine (reg_any _).mono ?_
  have B := HB3.out
  have C := HC3.out
  clear HB3 HC3
  generalize w2.alloc (.cells #[.string N, .int .i64 a, .int .i64 b, .string T, .slice a1 n1 c1, .slice a2 n2 c2, .slice a3 n3 c3, .int .i64 4] 41) = w3 at B C ⊢
  generalize w2.heap.size = Bx at C ⊢
  rintro e w4 ⟨v, l, rfl, hl, hR, b⟩
  replace C := CellsAt.below C b (CellsAt.lt C)
  replace B := B.trans (b.mono B.size)
  clear b
  go_wp2_with fail
  refine (HFN.out l v _ hl hR).mono ?_
  rintro e w5 ⟨⟨N', a', b', T', a1', n1', c1', a2', n2', c2', a3', n3', c3', f', rfl⟩, b2⟩
  replace C := CellsAt.below C b2 (CellsAt.lt C)
  replace B := B.trans (b2.mono B.size)
  have B3 := B.alloc B.size (.cells #[.string N', .int .i64 a', .int .i64 b', .string T', .slice a1' n1' c1', .slice a2' n2' c2', .slice a3' n3' c3', .int .i64 f'] 41)
  have C3 := CellsAt.kept C (World.grownBy_alloc w5 (.cells #[.string N', .int .i64 a', .int .i64 b', .string T', .slice a1' n1' c1', .slice a2' n2' c2', .slice a3' n3' c3', .int .i64 f'] 41) none) (by simp)
  have HB3 : Hid _ := B3
  have HC3 : Hid _ := C3
  clear hl hR b2 B B3 C C3 HFN
  go_wp2_with fail
  refine (reg_any _).mono ?_
  have B := HB3.out
  have C := HC3.out
  clear HB3 HC3
  generalize w5.alloc (.cells #[.string N', .int .i64 a', .int .i64 b', .string T', .slice a1' n1' c1', .slice a2' n2' c2', .slice a3' n3' c3', .int .i64 f'] 41) = w6 at B C ⊢
  rintro e w7 ⟨v, l, rfl, hl, hR, b⟩
  replace C := CellsAt.below C b (CellsAt.lt C)
  replace B := B.trans (b.mono B.size)
  clear b
  go_wp2_with fail
  refine (HC.out l v _ hl hR).mono ?_
  rintro e w8 ⟨rfl, b⟩
  replace C := CellsAt.below C b (CellsAt.lt C)
  replace B := B.trans (b.mono B.size)
  clear b hl hR HC
  go_wp2_with fail
  refine (pair_any _).mono ?_
  rintro e w9 ⟨v, l, rfl, hl, hP, b⟩
  replace C := CellsAt.below C b (CellsAt.lt C)
  replace B := B.trans (b.mono B.size)
  have hP' := hP.1
  obtain ⟨pl, kl, rfl, _⟩ := hP'
  clear b
  go_wp2_with fail
  refine (HE.out l _ _ _ _ hl hP).mono ?_
  rintro e w10 ⟨rfl, b⟩
  replace C := CellsAt.below C b (CellsAt.lt C)
  replace B := B.trans (b.mono B.size)
  clear b hl hP HE
  have q7 := CellsAt.cell C 7
  have hq := CellsAt.lt C
  simp at q7
  clear C
  go_wp2
  go_ret
  exact ⟨rfl, B⟩

end Go.Proofs.YtppmihnbpmkbnadGreat

/- What must be in any case, of regions. -/
namespace Go.Proofs.YtppmihnbpmkbnadGreat
open Go.RowKit Go.PlainAid

set_option maxRecDepth 100000

set_option maxHeartbeats 1000000 in
theorem sameRuns_yes (l : List (Int × Int)) (v v' : Value) (w : World) (h1 : RowOf 2 runCell w.heap.size w v l) (h2 : RowOf 2 runCell w.heap.size w v' l) :
    Calls Tryz.prog 58 #[v, v'] w fun e w' => e = .returned (.bool true) ∧ Below w.heap.size w w' := by
  obtain ⟨a, cap, rfl, hz, h1⟩ := h1
  obtain ⟨a', cap', rfl, _, h2⟩ := h2
  have hne : ((l.length : Int) != (l.length : Int)) = false := by simp
  go_enter Tryz.func58, Tryz.ntmps58
  go_wp2
  go_loopw [5] (fun i wr => ∃ (k : Nat), k ≤ l.length ∧ i = .int .i64 k ∧ Hid (∃ q, wr = w.drewN q)) (fun i _ => l.length - (intOf i).toNat)
  case atStart => exact ⟨0, Nat.zero_le _, rfl, (⟨0, rfl⟩ : ∃ q, w = w.drewN q)⟩
  case round =>
    obtain ⟨k, hk, rfl, HQ⟩ := hrel
    by_cases hlt : k < l.length
    · obtain ⟨p, hp⟩ : ∃ p, l[k]? = some p := ⟨_, List.getElem?_eq_getElem hlt⟩
      rcases h1 with h | ⟨b, off, rfl, hbn, hc⟩
      · subst h; simp at hlt
      rcases h2 with h | ⟨b', off', rfl, hbn', hc'⟩
      · subst h; simp at hlt
      have hcl : ∀ p, wr.cell? p = w.cell? p := fun p => by obtain ⟨q, hq⟩ := HQ.out; rw [hq]; simp
      have c0 := (hcl _).trans (hc k _ hp 0 (by omega))
      have c1 := (hcl _).trans (hc k _ hp 1 (by omega))
      have d0 := (hcl _).trans (hc' k _ hp 0 (by omega))
      have d1 := (hcl _).trans (hc' k _ hp 1 (by omega))
      obtain ⟨n, A⟩ := p
      dsimp only [runCell] at c0 c1 d0 d1
      rw [Nat.add_zero] at c0 d0
      clear hcl hc hc' hp
      go_wp2
      go_quiet (fail)
      go_wp2
      obtain ⟨q, hq⟩ := HQ.out
      exact ⟨⟨k + 1, by omega, by go_num, (⟨q + _, by rw [hq, World.drewN_drewN]⟩ : ∃ q, _ = w.drewN q)⟩, by simp [intOf]; omega⟩
    · go_wp2
      go_ret
      obtain ⟨q, hq⟩ := HQ.out
      exact ⟨rfl, by rw [hq]; exact below_drewN (Below.refl _ _) q⟩

theorem reg_pair : chkReg pairL = 0 := by kernel_rfl
theorem free_pair : freeRes pairL = [(0, 1), (2, 2), (5, 11)] := by kernel_rfl
theorem first_pair : firstRes pairL 2 = (2, 0) := by kernel_rfl
theorem sz_lib : szM libM = 1 := by kernel_rfl

set_option maxHeartbeats 4000000 in
theorem regionBegun_any (w : World) : Calls Tryz.prog 24 #[] w fun e w' => e = .returned (.bool true) ∧ Below w.heap.size w w' := by
  go_enter Tryz.func24, Tryz.ntmps24
  go_wp2_with fail
  refine (lib_any _).mono ?_
  rintro e w1 ⟨pe, ke, rfl, hL, b1⟩
  have HS : Hid (Calls Tryz.prog 30 _ w1 fun e w' => _) := size_any libM _ w1 hL fits_lib
  rw [chk_lib, if_pos rfl, sz_lib] at HS
  clear hL
  go_wp2_with fail
  refine HS.out.mono ?_
  rintro e w2 ⟨rfl, b2⟩
  have B2 := b1.trans (b2.mono b1.size)
  clear b1 b2 HS
  go_wp2_with fail
  refine (pair_any _).mono ?_
  rintro e w3 ⟨v3, l3, rfl, h3, p3, b3⟩
  have B3 := B2.trans (b3.mono B2.size)
  have HF : Hid (Calls Tryz.prog 26 #[v3] w3 fun e w' => _) := free_any l3 v3 w3 p3 (pair_fits h3)
  rw [h3, reg_pair, free_pair] at HF
  obtain ⟨⟨a3, c3, rfl, _, _⟩, _⟩ := p3
  clear B2 b3 h3
  generalize l3.length = n3 at *
  go_wp2_with fail
  refine HF.out.mono ?_
  rintro e w4 ⟨⟨r4, rfl, R4⟩, b4⟩
  have B4 := B3.trans (b4.mono B3.size)
  clear HF b4 B3
  obtain ⟨a4, c4, rfl, _⟩ := id R4
  go_wp2_with fail
  refine (pair_any _).mono ?_
  rintro e w5 ⟨v5, l5, rfl, h5, p5, b5⟩
  have B5 := B4.trans (b5.mono B4.size)
  have R5 := (R4.below b5).more b5.size
  have HF : Hid (Calls Tryz.prog 31 #[v5, .int .i64 2] w5 fun e w' => _) := first_any l5 v5 2 w5 p5 (pair_fits h5)
  rw [h5, first_pair] at HF
  obtain ⟨⟨a5, c5, rfl, _, _⟩, _⟩ := p5
  clear B4 b5 h5 R4
  generalize l5.length = n5 at *
  go_wp2_with fail
  refine HF.out.mono ?_
  rintro e w6 ⟨rfl, b6⟩
  have B6 := B5.trans (b6.mono B5.size)
  have R6 := (R5.below b6).more b6.size
  clear HF b6 B5 R5
  have B7 : Below w.heap.size w (w6.alloc (.cells #[.int .i64 0, .int .i64 1, .int .i64 2, .int .i64 2, .int .i64 5, .int .i64 11] 92)) := B6.alloc B6.size _
  have b7 : Below w6.heap.size w6 (w6.alloc (.cells #[.int .i64 0, .int .i64 1, .int .i64 2, .int .i64 2, .int .i64 5, .int .i64 11] 92)) := (Below.refl _ _).alloc (Nat.le_refl _) _
  have R7 : RowOf 2 runCell (w6.alloc (.cells #[.int .i64 0, .int .i64 1, .int .i64 2, .int .i64 2, .int .i64 5, .int .i64 11] 92)).heap.size (w6.alloc (.cells #[.int .i64 0, .int .i64 1, .int .i64 2, .int .i64 2, .int .i64 5, .int .i64 11] 92)) (.slice (some ⟨w6.heap.size, 0, none⟩) 3 3) [(0, 1), (2, 2), (5, 11)] :=
    rowOf_cells (C := runC) (cells := runCell) (sz := 2) (fun _ => rfl) runC_at (CellsAt.new w6 92 _) [(0, 1), (2, 2), (5, 11)] (show 3 ≤ 255 by decide) 3 rfl
  have HQ : Hid (Calls Tryz.prog 58 _ _ fun e w' => _) := sameRuns_yes _ _ _ _ ((R6.below b7).more b7.size) R7
  have HB7 : Hid (Below w.heap.size w (w6.alloc (.cells #[.int .i64 0, .int .i64 1, .int .i64 2, .int .i64 2, .int .i64 5, .int .i64 11] 92))) := B7
  clear b7 R7 R6 B7
  go_wp2_with fail
  refine HQ.out.mono ?_
  rintro e w8 ⟨rfl, b8⟩
  have B8 := HB7.out.trans (b8.mono HB7.out.size)
  clear HQ HB7 b8
  go_wp2
  go_ret
  exact ⟨rfl, B8⟩

end Go.Proofs.YtppmihnbpmkbnadGreat
