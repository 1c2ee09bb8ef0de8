/- Texts that are laid together. -/
import Derived.Test.YtnomapbiklfciafMrgO
import Derived.Deep.Cut
import Derived.Test.YtnomapbiklfciafMrgL

/- What must be in any case, of flashes. -/
namespace Go.Proofs.Ytnomapbiklfciaf
open Go.RowKit Go.PlainAid

set_option maxRecDepth 100000

/-- What Do and Torn answer. -/
def doRes (F : List ByteArray) (l : List Deed) : List ByteArray := if chkDeeds F l = 0 then doneAll F l else []
def tornRes (F : List ByteArray) (d : Deed) (p : ByteArray) : List ByteArray := if chkDeeds F [d] = 0 then tornB F d p else []

theorem do_doc (F : List ByteArray) (v : Value) (l : List Deed) (vl : Value) (w : World) (hF : IsFl w.heap.size w v F) (hl : RowOf 3 Deed.cell w.heap.size w vl l) :
    Calls Try.prog 8 #[.agg #[v], vl] w fun e w' => (∃ r, e = .returned (.tuple #[.agg #[r], .int .i64 (chkDeeds F l)]) ∧ IsFl w'.heap.size w' r (doRes F l)) ∧ Below w.heap.size w w' := by
  have := flDo_any F v l vl w hF hl
  rw [(chg_done F l).1, (chg_done F l).2] at this
  exact this
theorem torn_doc (F : List ByteArray) (v : Value) (d : Deed) (p : ByteArray) (w : World) (hF : IsFl w.heap.size w v F) (hp : p.size ≤ 9223372036854775807) :
    Calls Try.prog 12 #[.agg #[v], d.value, .string p] w fun e w' => (∃ r, e = .returned (.tuple #[.agg #[r], .int .i64 (chkDeeds F [d])]) ∧ IsFl w'.heap.size w' r (tornRes F d p)) ∧ Below w.heap.size w w' := by
  have := flTorn_any F v d p w hF hp
  rw [(chg_torn F d p).1, (chg_torn F d p).2] at this
  exact this

def bgD : List Deed := [⟨1, 129, 15⟩, ⟨1, 129, 60⟩]
def bgE : Deed := ⟨2, 1, 0⟩
def bgP : ByteArray := ⟨#[255, 1]⟩
def bgF : List ByteArray := newRes 2
def bgG : List ByteArray := doRes bgF bgD
def bgX : List ByteArray := tornRes bgG bgE bgP
theorem bg1 : chkDeeds bgF bgD = 0 := by kernel_rfl
theorem bg2 : chkDeeds bgG [bgE] = 0 := by kernel_rfl
theorem bg3 : readRes bgG 128 3 = (⟨#[255, 12, 255]⟩, 0) := by kernel_rfl
theorem bg4 : readRes bgX 129 1 = (⟨#[13]⟩, 0) := by kernel_rfl
theorem bg5 : chkFl bgG = 0 := by kernel_rfl


set_option maxHeartbeats 4000000 in
theorem flashBegun_any (w : World) : Calls Try.prog 7 #[] w fun e w' => e = .returned (.bool true) ∧ Below w.heap.size w w' := by
  have HN : Hid (∀ W, Calls Try.prog 11 #[.int .i64 2] W fun e w' => (∃ r, e = .returned (.tuple #[.agg #[r], .int .i64 0]) ∧ IsFl w'.heap.size w' r bgF) ∧ Below W.heap.size W w') := fun W => by
    have := flNew_any 2 W
    rw [if_pos (by decide)] at this
    exact this
  have HD : Hid (∀ v vl W, IsFl W.heap.size W v bgF → RowOf 3 Deed.cell W.heap.size W vl bgD → Calls Try.prog 8 #[.agg #[v], vl] W fun e w' => (∃ r, e = .returned (.tuple #[.agg #[r], .int .i64 0]) ∧ IsFl w'.heap.size w' r bgG) ∧ Below W.heap.size W w') := fun v vl W h1 h2 => by
    have := do_doc bgF v bgD vl W h1 h2
    rw [bg1] at this
    exact this
  have HR1 : Hid (∀ v W, IsFl W.heap.size W v bgG → Calls Try.prog 10 #[.agg #[v], .int .i64 128, .int .i64 3] W fun e w' => e = .returned (.tuple #[.string ⟨#[255, 12, 255]⟩, .int .i64 0]) ∧ Below W.heap.size W w') := fun v W h => by
    have := flRead_any bgG v 128 3 W h (by decide) (by decide)
    rw [bg3] at this
    exact this
  have HT : Hid (∀ v W, IsFl W.heap.size W v bgG → Calls Try.prog 12 #[.agg #[v], .agg #[.int .i64 2, .int .i64 1, .int .i64 0], .string ⟨#[255, 1]⟩] W fun e w' => (∃ r, e = .returned (.tuple #[.agg #[r], .int .i64 0]) ∧ IsFl w'.heap.size w' r bgX) ∧ Below W.heap.size W w') := fun v W h => by
    have := torn_doc bgG v bgE bgP W h (by decide)
    rw [bg2] at this
    exact this
  have HR2 : Hid (∀ v W, IsFl W.heap.size W v bgX → Calls Try.prog 10 #[.agg #[v], .int .i64 129, .int .i64 1] W fun e w' => e = .returned (.tuple #[.string ⟨#[13]⟩, .int .i64 0]) ∧ Below W.heap.size W w') := fun v W h => by
    have := flRead_any bgX v 129 1 W h (by decide) (by decide)
    rw [bg4] at this
    exact this
  have HC : Hid (∀ v W, IsFl W.heap.size W v bgG → Calls Try.prog 19 #[.agg #[v]] W fun e w' => e = .returned (.int .i64 0) ∧ Below W.heap.size W w') := fun v W h => by
    have := flCheck_any bgG v W h.1
    rw [bg5] at this
    exact this
  generalize bgG = G at *
  generalize bgX = X at *
  generalize bgF = F at *
  go_enter Try.func7, Try.ntmps7
  go_wp2_with fail
  refine (HN.out _).mono ?_
  rintro e w1 ⟨⟨r1, rfl, h1⟩, b1⟩
  obtain ⟨a1, c1, e1, _⟩ := h1.1
  subst e1
  have HB1 : Hid (Below w.heap.size w w1) := b1
  have HI1 : Hid (IsFl (w1.alloc (.cells #[.slice a1 F.length c1] 24)).heap.size (w1.alloc (.cells #[.slice a1 F.length c1] 24)) (.slice a1 F.length c1) F) := (h1.below ((Below.refl _ _).alloc (Nat.le_refl _) _)).more (by simp)
  clear b1 h1 HN
  have HB2 : Hid (Below w.heap.size w (w1.alloc (.cells #[.slice a1 F.length c1] 24))) := HB1.out.alloc HB1.out.size _
  generalize F.length = nF at *
  have HROW : Hid (∀ (W : World) n, n = W.heap.size → RowOf 3 Deed.cell (W.alloc (.cells #[.int .i64 1, .int .i64 129, .int .i64 15, .int .i64 1, .int .i64 129, .int .i64 60] 32)).heap.size (W.alloc (.cells #[.int .i64 1, .int .i64 129, .int .i64 15, .int .i64 1, .int .i64 129, .int .i64 60] 32)) (.slice (some ⟨n, 0, none⟩) 2 2) bgD) := fun W n hn => by
    subst hn
    exact rowOf_cells (C := deedC) (cells := Deed.cell) (sz := 3) (fun _ => rfl) deedC_at (CellsAt.new W 32 #[.int .i64 1, .int .i64 129, .int .i64 15, .int .i64 1, .int .i64 129, .int .i64 60]) bgD (show 2 ≤ 255 by decide) 2 rfl
  go_wp2_with fail
  have HI2 : Hid (IsFl ((w1.alloc (.cells #[.slice a1 nF c1] 24)).alloc (.cells #[.int .i64 1, .int .i64 129, .int .i64 15, .int .i64 1, .int .i64 129, .int .i64 60] 32)).heap.size ((w1.alloc (.cells #[.slice a1 nF c1] 24)).alloc (.cells #[.int .i64 1, .int .i64 129, .int .i64 15, .int .i64 1, .int .i64 129, .int .i64 60] 32)) (.slice a1 nF c1) F) := (HI1.out.below ((Below.refl _ _).alloc (Nat.le_refl _) _)).more (by simp)
  have HB3 : Hid (Below w.heap.size w ((w1.alloc (.cells #[.slice a1 nF c1] 24)).alloc (.cells #[.int .i64 1, .int .i64 129, .int .i64 15, .int .i64 1, .int .i64 129, .int .i64 60] 32))) := HB2.out.alloc HB2.out.size _
  have HRW : Hid (RowOf 3 Deed.cell ((w1.alloc (.cells #[.slice a1 nF c1] 24)).alloc (.cells #[.int .i64 1, .int .i64 129, .int .i64 15, .int .i64 1, .int .i64 129, .int .i64 60] 32)).heap.size ((w1.alloc (.cells #[.slice a1 nF c1] 24)).alloc (.cells #[.int .i64 1, .int .i64 129, .int .i64 15, .int .i64 1, .int .i64 129, .int .i64 60] 32)) (.slice (some ⟨w1.heap.size + 1, 0, none⟩) 2 2) bgD) := HROW.out _ _ (by simp)
  generalize (w1.alloc (.cells #[.slice a1 nF c1] 24)).alloc (.cells #[.int .i64 1, .int .i64 129, .int .i64 15, .int .i64 1, .int .i64 129, .int .i64 60] 32) = w2 at *
  clear HI1 HB2 HROW
  refine (HD.out _ _ _ HI2.out HRW.out).mono ?_
  rintro e w3 ⟨⟨r3, rfl, h3⟩, b3⟩
  obtain ⟨a3, c3, e3, _⟩ := h3.1
  subst e3
  have HB4 : Hid (Below w.heap.size w (w3.alloc (.cells #[.slice a3 G.length c3] 24))) := by
    have := HB3.out.trans (b3.mono HB3.out.size)
    exact this.alloc this.size _
  have HI4 : Hid (IsFl (w3.alloc (.cells #[.slice a3 G.length c3] 24)).heap.size (w3.alloc (.cells #[.slice a3 G.length c3] 24)) (.slice a3 G.length c3) G) := (h3.below ((Below.refl _ _).alloc (Nat.le_refl _) _)).more (by simp)
  have HC4 : Hid (CellsAt (w3.alloc (.cells #[.slice a3 G.length c3] 24)) w3.heap.size 24 #[.slice a3 G.length c3]) := CellsAt.new _ _ _
  clear b3 h3 HD HI2 HRW HB3
  generalize G.length = nG at *
  go_wp2_with fail
  generalize (w3.alloc (.cells #[.slice a3 nG c3] 24)) = w4 at *
  generalize w3.heap.size = B3 at *
  refine (HR1.out _ _ HI4.out).mono ?_
  rintro e w5 ⟨rfl, b5⟩
  have HB5 : Hid (Below w.heap.size w w5) := HB4.out.trans (b5.mono HB4.out.size)
  have HI5 : Hid (IsFl w5.heap.size w5 (.slice a3 nG c3) G) := (HI4.out.below b5).more b5.size
  have HC5 : Hid (CellsAt w5 B3 24 #[.slice a3 nG c3]) := HC4.out.below b5 HC4.out.lt
  clear b5 HB4 HI4 HC4 HR1
  have x5 := HC5.out.cell 0
  have l5 := HC5.out.lt
  simp at x5
  go_wp2_with fail
  refine (HT.out _ _ HI5.out).mono ?_
  rintro e w6 ⟨⟨r6, rfl, h6⟩, b6⟩
  obtain ⟨a6, c6, e6, _⟩ := h6.1
  subst e6
  have HB7 : Hid (Below w.heap.size w (w6.alloc (.cells #[.slice a6 X.length c6] 24))) := by
    have := HB5.out.trans (b6.mono HB5.out.size)
    exact this.alloc this.size _
  have HI7 : Hid (IsFl (w6.alloc (.cells #[.slice a6 X.length c6] 24)).heap.size (w6.alloc (.cells #[.slice a6 X.length c6] 24)) (.slice a6 X.length c6) X) := (h6.below ((Below.refl _ _).alloc (Nat.le_refl _) _)).more (by simp)
  have hg7 := ((HI5.out.below b6).more b6.size).below ((Below.refl w6.heap.size w6).alloc (Nat.le_refl _) (.cells #[.slice a6 X.length c6] 24))
  have HG7 : Hid (IsFl (w6.alloc (.cells #[.slice a6 X.length c6] 24)).heap.size (w6.alloc (.cells #[.slice a6 X.length c6] 24)) (.slice a3 nG c3) G) := hg7.more (by simp)
  have HC7 : Hid (CellsAt (w6.alloc (.cells #[.slice a6 X.length c6] 24)) B3 24 #[.slice a3 nG c3]) := (HC5.out.below b6 HC5.out.lt).kept (World.grownBy_alloc _ _ none) (by simp)
  clear b6 h6 HT HB5 HI5 HC5 hg7 x5 l5
  generalize X.length = nX at *
  go_wp2_with fail
  generalize (w6.alloc (.cells #[.slice a6 nX c6] 24)) = w7 at *
  generalize w6.heap.size = B6 at *
  refine (HR2.out _ _ HI7.out).mono ?_
  rintro e w8 ⟨rfl, b8⟩
  have HB8 : Hid (Below w.heap.size w w8) := HB7.out.trans (b8.mono HB7.out.size)
  have HG8 : Hid (IsFl w8.heap.size w8 (.slice a3 nG c3) G) := (HG7.out.below b8).more b8.size
  have HC8 : Hid (CellsAt w8 B3 24 #[.slice a3 nG c3]) := HC7.out.below b8 HC7.out.lt
  clear b8 HB7 HI7 HC7 HG7 HR2
  have x8 := HC8.out.cell 0
  have l8 := HC8.out.lt
  simp at x8
  go_wp2_with fail
  refine (HC.out _ _ HG8.out).mono ?_
  rintro e w9 ⟨rfl, b9⟩
  have HB9 : Hid (Below w.heap.size w w9) := HB8.out.trans (b9.mono HB8.out.size)
  clear b9 HB8 HG8 HC8 HC x8 l8
  go_wp2
  go_ret
  exact ⟨rfl, HB9.out⟩

end Go.Proofs.Ytnomapbiklfciaf

/- The contract of the statements' flashIs. -/
namespace Go.Proofs.Ytnomapbiklfciaf
open Go.RowKit Go.PlainAid

set_option maxRecDepth 100000

set_option maxHeartbeats 4000000 in
theorem flashIs_any (e : Int) (X Y : List ByteArray) (v v' : Value) (w : World) (h1 : IsFl w.heap.size w v X) (h2 : IsFl w.heap.size w v' Y) (h3 : e = 0 → X = Y) (h4 : e ≠ 0 → X = []) :
    Calls Try.prog 20 #[.agg #[v], .int .i64 e, .int .i64 e, .agg #[v']] w fun r w' => r = .returned (.bool true) ∧ Below w.heap.size w w' := by
  have HS : Hid (∀ a b W, IsFl W.heap.size W a X → IsFl W.heap.size W b X → Calls Try.prog 9 #[.agg #[a], .agg #[b]] W fun e w' => e = .returned (.bool true) ∧ Below W.heap.size W w') := fun a b W h1 h2 => by
    have := sameFlash_any X X a b W h1.1 h2.1
    rw [sameB_self] at this
    exact this
  obtain ⟨⟨a, c, rfl, _, _⟩, _⟩ := id h1
  obtain ⟨⟨a', c', rfl, _, _⟩, _⟩ := id h2
  have HE : (e == e) = true := by simp
  have HB1 : Hid (Below w.heap.size w ((w.alloc (.cells #[.slice a X.length c] 24)).alloc (.cells #[.slice a' Y.length c'] 24))) := ((Below.refl _ _).alloc (Nat.le_refl _) _).alloc (by simp) _
  have HX1 : Hid (IsFl w.heap.size w (.slice a X.length c) X) := h1
  have HY1 : Hid (IsFl w.heap.size w (.slice a' Y.length c') Y) := h2
  clear h1 h2
  by_cases h0 : e = 0
  · have hxy := h3 h0
    subst hxy h0
    clear h3 h4
    go_enter Try.func20, Try.ntmps20
    go_wp2_with fail
    have HX2 := (HX1.out.below HB1.out).more HB1.out.size
    have HY2 := (HY1.out.below HB1.out).more HB1.out.size
    refine (HS.out _ _ _ HX2 HY2).mono ?_
    rintro r w2 ⟨rfl, b2⟩
    go_wp2
    go_ret
    exact ⟨rfl, HB1.out.trans (b2.mono HB1.out.size)⟩
  · have hx := h4 h0
    subst hx
    have h0' : (e != 0) = true := by simpa using h0
    clear h3 h4 h0
    have HB2 : Hid (Below w.heap.size w ((w.alloc (.cells #[.slice a 0 c] 24)).alloc (.cells #[.slice none 0 0] 24))) := ((Below.refl _ _).alloc (Nat.le_refl _) _).alloc (by simp) _
    go_enter Try.func20, Try.ntmps20
    go_wp2_with fail
    have HX2 := (HX1.out.below HB2.out).more HB2.out.size
    refine (HS.out _ _ _ HX2 (IsFl.nil _ _)).mono ?_
    rintro r w2 ⟨rfl, b2⟩
    go_wp2
    go_ret
    exact ⟨rfl, HB2.out.trans (b2.mono HB2.out.size)⟩

end Go.Proofs.Ytnomapbiklfciaf

/- FlashTells: the walk. -/
namespace Go.Proofs.Ytnomapbiklfciaf.flashTells
open Go.RowKit Go.PlainAid Go.Lib

set_option maxRecDepth 100000

theorem chk_zero {F : List ByteArray} {l : List Deed} (h : chkDeeds F l = 0) : chkFl F = 0 := (chkDs_zero h).1
theorem read_cases (F : List ByteArray) (a m : Int) : (chkFl F ≠ 0 ∧ (readRes F a m).1 = ⟨#[]⟩ ∧ (readRes F a m).2 = chkFl F) ∨ (chkFl F = 0 ∧ ((a < 0 ∧ (readRes F a m).1 = ⟨#[]⟩ ∧ (readRes F a m).2 = 3) ∨ (0 ≤ a ∧ m < 0 ∧ (readRes F a m).1 = ⟨#[]⟩ ∧ (readRes F a m).2 = 3) ∨ (0 ≤ a ∧ 0 ≤ m ∧ (F.length * 128 : Int) < a ∧ (readRes F a m).1 = ⟨#[]⟩ ∧ (readRes F a m).2 = 3) ∨ (0 ≤ a ∧ 0 ≤ m ∧ a ≤ (F.length * 128 : Int) ∧ (F.length * 128 : Int) - a < m ∧ (readRes F a m).1 = ⟨#[]⟩ ∧ (readRes F a m).2 = 3) ∨
      (∃ an mn : Nat, a = an ∧ m = mn ∧ an + mn ≤ F.length * 128 ∧ (readRes F a m).1 = (⟨(joinM F).toArray⟩ : ByteArray).extract an (an + mn) ∧ (readRes F a m).2 = 0))) := by
  by_cases h0 : chkFl F = 0
  · have hl := (joinM_bound h0).1
    refine .inr ⟨h0, ?_⟩
    unfold readRes
    rw [if_neg (by omega), hl]
    by_cases h1 : a < 0
    · exact .inl ⟨h1, by rw [if_pos (.inl h1)], by rw [if_pos (.inl h1)]⟩
    by_cases h2 : m < 0
    · exact .inr (.inl ⟨by omega, h2, by rw [if_pos (.inr (.inl h2))], by rw [if_pos (.inr (.inl h2))]⟩)
    by_cases h3 : (F.length * 128 : Int) < a
    · exact .inr (.inr (.inl ⟨by omega, by omega, h3, by rw [if_pos (.inr (.inr (by omega)))], by rw [if_pos (.inr (.inr (by omega)))]⟩))
    by_cases h4 : (F.length * 128 : Int) - a < m
    · exact .inr (.inr (.inr (.inl ⟨by omega, by omega, by omega, h4, by rw [if_pos (.inr (.inr (by omega)))], by rw [if_pos (.inr (.inr (by omega)))]⟩)))
    · refine .inr (.inr (.inr (.inr ⟨a.toNat, m.toNat, by omega, by omega, by omega, ?_⟩)))
      rw [if_neg (by omega), extract_list, Nat.add_sub_cancel_left]
      exact ⟨rfl, rfl⟩
  · exact .inl ⟨h0, by unfold readRes; rw [if_pos h0], by unfold readRes; rw [if_pos h0]⟩
theorem new_zero {n : Int} (h : (if 1 ≤ n ∧ n ≤ 32 then (0 : Int) else 3) = 0) : ∃ k : Nat, n = k ∧ 1 ≤ k ∧ k ≤ 32 := by
  by_cases h1 : 1 ≤ n ∧ n ≤ 32
  · exact ⟨n.toNat, by omega, by omega, by omega⟩
  · rw [if_neg h1] at h; exact absurd h (by decide)

set_option maxHeartbeats 16000000 in
theorem walk (n : Int) (F : List ByteArray) (c : Value) (a m : Int) (l : List Deed) (vl : Value) (d : Deed) (p : ByteArray) (w : World) (hn : (Lit.int .i64 n).wf = true) (hF : IsFl w.heap.size w c F) (ha : (Lit.int .i64 a).wf = true) (hm : (Lit.int .i64 m).wf = true) (hl : RowOf 3 Deed.cell w.heap.size w vl l) (_ : CapIn vl) (hp : p.size ≤ 140737488351232) :
    Calls Try.prog 4 #[.int .i64 n, .agg #[c], .int .i64 a, .int .i64 m, vl, d.value, .string p] w fun e w' => e = .returned (.bool true) ∧ Below w.heap.size w w' := by
  have HBG : Hid (∀ W, Calls Try.prog 7 #[] W fun e w' => e = .returned (.bool true) ∧ Below W.heap.size W w') := flashBegun_any
  have HNW : Hid (∀ W, Calls Try.prog 11 #[.int .i64 n] W fun e w' => (∃ r, e = .returned (.tuple #[.agg #[r], .int .i64 (if 1 ≤ n ∧ n ≤ 32 then 0 else 3)]) ∧ IsFl w'.heap.size w' r (newRes n)) ∧ Below W.heap.size W w') := fun W => flNew_any n W
  have HRD : Hid (∀ v W, IsFl W.heap.size W v F → Calls Try.prog 10 #[.agg #[v], .int .i64 a, .int .i64 m] W fun e w' => e = .returned (.tuple #[.string (readRes F a m).1, .int .i64 (readRes F a m).2]) ∧ Below W.heap.size W w') := fun v W h => flRead_any F v a m W h ha hm
  have HDO : Hid (∀ v vl W, IsFl W.heap.size W v F → RowOf 3 Deed.cell W.heap.size W vl l → Calls Try.prog 8 #[.agg #[v], vl] W fun e w' => (∃ r, e = .returned (.tuple #[.agg #[r], .int .i64 (chkDeeds F l)]) ∧ IsFl w'.heap.size w' r (doRes F l)) ∧ Below W.heap.size W w') := fun v vl W h1 h2 => do_doc F v l vl W h1 h2
  have HTO : Hid (∀ v W, IsFl W.heap.size W v F → Calls Try.prog 12 #[.agg #[v], .agg #[.int .i64 d.kind, .int .i64 d.pos, .int .i64 d.val], .string p] W fun e w' => (∃ r, e = .returned (.tuple #[.agg #[r], .int .i64 (chkDeeds F [d])]) ∧ IsFl w'.heap.size w' r (tornRes F d p)) ∧ Below W.heap.size W w') := fun v W h1 => torn_doc F v d p W h1 (by omega)
  have HCF : Hid (∀ v W, IsFl W.heap.size W v F → Calls Try.prog 13 #[.agg #[v]] W fun e w' => e = .returned (.int .i64 (chkFl F)) ∧ Below W.heap.size W w') := fun v W h => rCheckFlash_any F v W h.1
  have HCK : Hid (∀ v W, IsFl W.heap.size W v F → Calls Try.prog 19 #[.agg #[v]] W fun e w' => e = .returned (.int .i64 (chkFl F)) ∧ Below W.heap.size W w') := fun v W h => flCheck_any F v W h.1
  have HC1 : Hid (∀ v vl W, IsFl W.heap.size W v F → RowOf 3 Deed.cell W.heap.size W vl l → Calls Try.prog 14 #[.agg #[v], vl] W fun e w' => e = .returned (.int .i64 (chkDeeds F l)) ∧ Below W.heap.size W w') := fun v vl W h1 h2 => rCheckDeeds_any F v l vl W h1.1 h2
  have HC2 : Hid (∀ v vl W, IsFl W.heap.size W v F → RowOf 3 Deed.cell W.heap.size W vl [d] → Calls Try.prog 14 #[.agg #[v], vl] W fun e w' => e = .returned (.int .i64 (chkDeeds F [d])) ∧ Below W.heap.size W w') := fun v vl W h1 h2 => rCheckDeeds_any F v [d] vl W h1.1 h2
  have HNF : Hid (∀ W, (if 1 ≤ n ∧ n ≤ 32 then (0 : Int) else 3) = 0 → Calls Try.prog 15 #[.int .i64 n] W fun e w' => (∃ r, e = .returned (.agg #[r]) ∧ IsFl w'.heap.size w' r (newRes n)) ∧ Below W.heap.size W w') := fun W h => by
    obtain ⟨k, rfl, h1, h2⟩ := new_zero h
    rw [(newRes_ff k h1 h2).1]
    refine (rNew_any k h2 W).mono ?_
    rintro e w' ⟨⟨r, he, ho⟩, hb⟩
    refine ⟨⟨r, he, IsFl.own (base := W.heap.size) (by rw [List.length_replicate]; exact ho) (by rw [List.length_replicate]; omega)⟩, hb⟩
  have HAO : Hid (∀ v W, chkFl F = 0 → IsFl W.heap.size W v F → Calls Try.prog 16 #[.agg #[v]] W fun e w' => e = .returned (.string ⟨(joinM F).toArray⟩) ∧ Below W.heap.size W w') := fun v W h0 h => rAllOf_any F v W h.1 h0
  have HDN : Hid (∀ v vl W, chkDeeds F l = 0 → IsFl W.heap.size W v F → RowOf 3 Deed.cell W.heap.size W vl l → Calls Try.prog 17 #[.agg #[v], vl] W fun e w' => (∃ r, e = .returned (.agg #[r]) ∧ IsFl w'.heap.size w' r (doRes F l)) ∧ Below W.heap.size W w') := fun v vl W h0 h1 h2 => by
    refine (rDone_any F v l vl W h1.1 h2 h0).mono ?_
    rintro e w' ⟨⟨r, he, ho, hg⟩, hb⟩
    rw [show doRes F l = doneAll F l from if_pos h0]
    refine ⟨⟨r, he, IsFl.own (base := W.heap.size) (by rw [hg.1]; exact ho) (by have := hg.2.2.1; have := hg.1; omega)⟩, hb⟩
  have HTN : Hid (∀ v W, chkDeeds F [d] = 0 → IsFl W.heap.size W v F → Calls Try.prog 18 #[.agg #[v], .agg #[.int .i64 d.kind, .int .i64 d.pos, .int .i64 d.val], .string p] W fun e w' => (∃ r, e = .returned (.agg #[r]) ∧ IsFl w'.heap.size w' r (tornRes F d p)) ∧ Below W.heap.size W w') := fun v W h0 h1 => by
    obtain ⟨h2, h3⟩ := chkDs_zero h0
    refine (rTorn_any F v d p W h1.1 h2 (h3 d (List.mem_singleton_self d)) (by omega)).mono ?_
    rintro e w' ⟨⟨r, he, ho, hg⟩, hb⟩
    rw [show tornRes F d p = tornB F d p from if_pos h0]
    refine ⟨⟨r, he, IsFl.own (base := W.heap.size) (by rw [hg.1]; exact ho) (by have := hg.2.2.1; have := hg.1; omega)⟩, hb⟩
  have HF1 : Hid (∀ v v' W (X Y : List ByteArray) e, IsFl W.heap.size W v X → IsFl W.heap.size W v' Y → (e = 0 → X = Y) → (e ≠ 0 → X = []) → Calls Try.prog 20 #[.agg #[v], .int .i64 e, .int .i64 e, .agg #[v']] W fun r w' => r = .returned (.bool true) ∧ Below W.heap.size W w') := fun v v' W X Y e h1 h2 h3 h4 => flashIs_any e X Y v v' W h1 h2 h3 h4
  have HROW : Hid (∀ (W : World) n, n = W.heap.size → RowOf 3 Deed.cell (W.alloc (.cells #[.int .i64 d.kind, .int .i64 d.pos, .int .i64 d.val] 32)).heap.size (W.alloc (.cells #[.int .i64 d.kind, .int .i64 d.pos, .int .i64 d.val] 32)) (.slice (some ⟨n, 0, none⟩) 1 1) [d]) := fun W n hn => by
    subst hn
    exact rowOf_cells (C := deedC) (cells := Deed.cell) (sz := 3) (fun _ => rfl) deedC_at (CellsAt.new W 32 (deedC d).toArray) [d] (show 1 ≤ 255 by decide) 1 rfl
  have KU : Hid ((1 ≤ n ∧ n ≤ 32 ∧ (if 1 ≤ n ∧ n ≤ 32 then (0 : Int) else 3) = 0) ∨ (n < 1 ∧ (if 1 ≤ n ∧ n ≤ 32 then (0 : Int) else 3) = 3) ∨ (1 ≤ n ∧ 32 < n ∧ (if 1 ≤ n ∧ n ≤ 32 then (0 : Int) else 3) = 3)) := by
    show _ ∨ _
    by_cases h1 : 1 ≤ n
    · by_cases h2 : n ≤ 32
      · exact .inl ⟨h1, h2, if_pos ⟨h1, h2⟩⟩
      · exact .inr (.inr ⟨h1, by omega, if_neg (by omega)⟩)
    · exact .inr (.inl ⟨by omega, if_neg (by omega)⟩)
  have KN : Hid ((if 1 ≤ n ∧ n ≤ 32 then (0 : Int) else 3) ≠ 0 → newRes n = []) := fun h => by
    by_cases h1 : 1 ≤ n ∧ n ≤ 32
    · rw [if_pos h1] at h; exact absurd rfl h
    · exact if_neg h1
  have KD : Hid (chkDeeds F l ≠ 0 → doRes F l = []) := fun h => if_neg h
  have KT : Hid (chkDeeds F [d] ≠ 0 → tornRes F d p = []) := fun h => if_neg h
  have KR : Hid _ := read_cases F a m
  obtain ⟨⟨ad, cap, rfl, hmx, _⟩, _⟩ := id hF
  obtain ⟨la, lcap, rfl, _, _⟩ := id hl
  have hsz : (⟨(joinM F).toArray⟩ : ByteArray).size = (joinM F).length := size_mk _
  have KSZ : Hid (chkFl F = 0 → (⟨(joinM F).toArray⟩ : ByteArray).size = F.length * 128 ∧ F.length ≤ 32) := fun h => ⟨by rw [hsz]; exact (joinM_bound h).1, (joinM_bound h).2.1⟩
  clear hsz ha hm hn hp
  generalize (if 1 ≤ n ∧ n ≤ 32 then (0 : Int) else 3) = U at *
  generalize newRes n = RN at *
  generalize readRes F a m = RR at *
  generalize chkDeeds F l = E1 at *
  generalize doRes F l = D1 at *
  generalize chkDeeds F [d] = E2 at *
  generalize tornRes F d p = T1 at *
  generalize chkFl F = CF at *
  generalize (⟨(joinM F).toArray⟩ : ByteArray) = S at *
  obtain ⟨RS, RW⟩ := RR
  obtain ⟨kd, ps, dv⟩ := d
  unfold Deed.value
  dsimp only at *
  generalize F.length = nF at *
  generalize hdl : [(⟨kd, ps, dv⟩ : Deed)] = dl at *
  clear hdl
  have HB0 : Hid (Below w.heap.size w ((w.alloc (.cells #[.slice ad nF cap] 24)).alloc (.cells #[.int .i64 kd, .int .i64 ps, .int .i64 dv] 32))) := ((Below.refl _ _).alloc (Nat.le_refl _) _).alloc (by simp) _
  have Hf : Hid (CellsAt ((w.alloc (.cells #[.slice ad nF cap] 24)).alloc (.cells #[.int .i64 kd, .int .i64 ps, .int .i64 dv] 32)) (w.heap.size) 24 #[.slice ad nF cap]) := (CellsAt.new w 24 #[.slice ad nF cap]).kept (World.grownBy_alloc _ _ none) (by simp)
  have Hd : Hid (CellsAt ((w.alloc (.cells #[.slice ad nF cap] 24)).alloc (.cells #[.int .i64 kd, .int .i64 ps, .int .i64 dv] 32)) (w.heap.size + 1) 32 #[.int .i64 kd, .int .i64 ps, .int .i64 dv]) := by
    have := CellsAt.new (w.alloc (.cells #[.slice ad nF cap] 24)) 32 #[.int .i64 kd, .int .i64 ps, .int .i64 dv]
    rw [World.size_alloc] at this
    exact this
  have HF0 : Hid (IsFl ((w.alloc (.cells #[.slice ad nF cap] 24)).alloc (.cells #[.int .i64 kd, .int .i64 ps, .int .i64 dv] 32)).heap.size ((w.alloc (.cells #[.slice ad nF cap] 24)).alloc (.cells #[.int .i64 kd, .int .i64 ps, .int .i64 dv] 32)) (.slice ad nF cap) F) := (hF.below HB0.out).more HB0.out.size
  have HL0 : Hid (RowOf 3 Deed.cell ((w.alloc (.cells #[.slice ad nF cap] 24)).alloc (.cells #[.int .i64 kd, .int .i64 ps, .int .i64 dv] 32)).heap.size ((w.alloc (.cells #[.slice ad nF cap] 24)).alloc (.cells #[.int .i64 kd, .int .i64 ps, .int .i64 dv] 32)) (.slice la l.length lcap) l) := (hl.below HB0.out).more HB0.out.size
  have HFO : Hid (IsFl w.heap.size w (.slice ad nF cap) F) := hF
  have HLO : Hid (RowOf 3 Deed.cell w.heap.size w (.slice la l.length lcap) l) := hl
  clear hF hl
  go_enter Try.func4, Try.ntmps4
  go_wp2_with fail
  generalize ((w.alloc (.cells #[.slice ad nF cap] 24)).alloc (.cells #[.int .i64 kd, .int .i64 ps, .int .i64 dv] 32)) = w0 at *
  refine (HNW.out _).mono ?_
  rintro e wc1 ⟨⟨r1, rfl, hr1⟩, bb1⟩
  replace HB0 : Hid (Below w.heap.size w wc1) := HB0.out.trans (bb1.mono HB0.out.size)
  replace Hf : Hid (CellsAt wc1 (w.heap.size) 24 #[.slice ad nF cap]) := Hf.out.below bb1 Hf.out.lt
  replace Hd : Hid (CellsAt wc1 (w.heap.size + 1) 32 #[.int .i64 kd, .int .i64 ps, .int .i64 dv]) := Hd.out.below bb1 Hd.out.lt
  replace HF0 : Hid (IsFl wc1.heap.size wc1 (.slice ad nF cap) F) := (HF0.out.below bb1).more bb1.size
  replace HL0 : Hid (RowOf 3 Deed.cell wc1.heap.size wc1 (.slice la l.length lcap) l) := (HL0.out.below bb1).more bb1.size
  clear bb1
  obtain ⟨⟨a1, c1, rfl, _, _⟩, _⟩ := id hr1
  have HA : Hid (IsFl wc1.heap.size wc1 (.slice a1 RN.length c1) RN) := hr1
  clear hr1 HNW
  have pl_Hf_0 := Hf.out.cell 0
  simp at pl_Hf_0
  have pl_Hf_lt := Hf.out.lt
  replace HB0 : Hid (Below w.heap.size w (wc1.alloc (.cells #[.slice a1 RN.length c1] 24))) := HB0.out.alloc HB0.out.size _
  replace Hf : Hid (CellsAt (wc1.alloc (.cells #[.slice a1 RN.length c1] 24)) (w.heap.size) 24 #[.slice ad nF cap]) := Hf.out.kept (World.grownBy_alloc _ _ none) (by simp)
  replace Hd : Hid (CellsAt (wc1.alloc (.cells #[.slice a1 RN.length c1] 24)) (w.heap.size + 1) 32 #[.int .i64 kd, .int .i64 ps, .int .i64 dv]) := Hd.out.kept (World.grownBy_alloc _ _ none) (by simp)
  replace HF0 : Hid (IsFl (wc1.alloc (.cells #[.slice a1 RN.length c1] 24)).heap.size (wc1.alloc (.cells #[.slice a1 RN.length c1] 24)) (.slice ad nF cap) F) := (HF0.out.below ((Below.refl _ _).alloc (Nat.le_refl _) _)).more (by simp)
  replace HL0 : Hid (RowOf 3 Deed.cell (wc1.alloc (.cells #[.slice a1 RN.length c1] 24)).heap.size (wc1.alloc (.cells #[.slice a1 RN.length c1] 24)) (.slice la l.length lcap) l) := (HL0.out.below ((Below.refl _ _).alloc (Nat.le_refl _) _)).more (by simp)
  replace HA : Hid (IsFl (wc1.alloc (.cells #[.slice a1 RN.length c1] 24)).heap.size (wc1.alloc (.cells #[.slice a1 RN.length c1] 24)) (.slice a1 RN.length c1) RN) := (HA.out.below ((Below.refl _ _).alloc (Nat.le_refl _) _)).more (by simp)
  have H15 : Hid (CellsAt (wc1.alloc (.cells #[.slice a1 RN.length c1] 24)) (wc1.heap.size) 24 #[.slice a1 RN.length c1]) := by first | exact CellsAt.new _ _ _ | (have := CellsAt.new wc1 24 #[.slice a1 RN.length c1]; simp only [World.size_alloc] at this; exact this)
  go_wp2_with fail
  clear pl_Hf_0 pl_Hf_lt
  generalize (wc1.alloc (.cells #[.slice a1 RN.length c1] 24)) = w2 at *
  refine (HRD.out _ _ HF0.out).mono ?_
  rintro e wc3 ⟨rfl, bb3⟩
  replace HB0 : Hid (Below w.heap.size w wc3) := HB0.out.trans (bb3.mono HB0.out.size)
  replace Hf : Hid (CellsAt wc3 (w.heap.size) 24 #[.slice ad nF cap]) := Hf.out.below bb3 Hf.out.lt
  replace Hd : Hid (CellsAt wc3 (w.heap.size + 1) 32 #[.int .i64 kd, .int .i64 ps, .int .i64 dv]) := Hd.out.below bb3 Hd.out.lt
  replace HF0 : Hid (IsFl wc3.heap.size wc3 (.slice ad nF cap) F) := (HF0.out.below bb3).more bb3.size
  replace HL0 : Hid (RowOf 3 Deed.cell wc3.heap.size wc3 (.slice la l.length lcap) l) := (HL0.out.below bb3).more bb3.size
  replace HA : Hid (IsFl wc3.heap.size wc3 (.slice a1 RN.length c1) RN) := (HA.out.below bb3).more bb3.size
  replace H15 : Hid (CellsAt wc3 (wc1.heap.size) 24 #[.slice a1 RN.length c1]) := H15.out.below bb3 H15.out.lt
  clear bb3
  clear HRD
  have pl_Hf_0 := Hf.out.cell 0
  simp at pl_Hf_0
  have pl_Hf_lt := Hf.out.lt
  go_wp2_with fail
  clear pl_Hf_0 pl_Hf_lt
  refine (HDO.out _ _ _ HF0.out HL0.out).mono ?_
  rintro e wc4 ⟨⟨r2, rfl, hr2⟩, bb4⟩
  replace HB0 : Hid (Below w.heap.size w wc4) := HB0.out.trans (bb4.mono HB0.out.size)
  replace Hf : Hid (CellsAt wc4 (w.heap.size) 24 #[.slice ad nF cap]) := Hf.out.below bb4 Hf.out.lt
  replace Hd : Hid (CellsAt wc4 (w.heap.size + 1) 32 #[.int .i64 kd, .int .i64 ps, .int .i64 dv]) := Hd.out.below bb4 Hd.out.lt
  replace HF0 : Hid (IsFl wc4.heap.size wc4 (.slice ad nF cap) F) := (HF0.out.below bb4).more bb4.size
  replace HL0 : Hid (RowOf 3 Deed.cell wc4.heap.size wc4 (.slice la l.length lcap) l) := (HL0.out.below bb4).more bb4.size
  replace HA : Hid (IsFl wc4.heap.size wc4 (.slice a1 RN.length c1) RN) := (HA.out.below bb4).more bb4.size
  replace H15 : Hid (CellsAt wc4 (wc1.heap.size) 24 #[.slice a1 RN.length c1]) := H15.out.below bb4 H15.out.lt
  clear bb4
  obtain ⟨⟨a2, c2, rfl, _, _⟩, _⟩ := id hr2
  have HDf : Hid (IsFl wc4.heap.size wc4 (.slice a2 D1.length c2) D1) := hr2
  clear hr2 HDO
  have pl_Hf_0 := Hf.out.cell 0
  simp at pl_Hf_0
  have pl_Hf_lt := Hf.out.lt
  have pl_Hd_0 := Hd.out.cell 0
  have pl_Hd_1 := Hd.out.cell 1
  have pl_Hd_2 := Hd.out.cell 2
  simp at pl_Hd_0 pl_Hd_1 pl_Hd_2
  have pl_Hd_lt := Hd.out.lt
  replace HB0 : Hid (Below w.heap.size w (wc4.alloc (.cells #[.slice a2 D1.length c2] 24))) := HB0.out.alloc HB0.out.size _
  replace Hf : Hid (CellsAt (wc4.alloc (.cells #[.slice a2 D1.length c2] 24)) (w.heap.size) 24 #[.slice ad nF cap]) := Hf.out.kept (World.grownBy_alloc _ _ none) (by simp)
  replace Hd : Hid (CellsAt (wc4.alloc (.cells #[.slice a2 D1.length c2] 24)) (w.heap.size + 1) 32 #[.int .i64 kd, .int .i64 ps, .int .i64 dv]) := Hd.out.kept (World.grownBy_alloc _ _ none) (by simp)
  replace HF0 : Hid (IsFl (wc4.alloc (.cells #[.slice a2 D1.length c2] 24)).heap.size (wc4.alloc (.cells #[.slice a2 D1.length c2] 24)) (.slice ad nF cap) F) := (HF0.out.below ((Below.refl _ _).alloc (Nat.le_refl _) _)).more (by simp)
  replace HL0 : Hid (RowOf 3 Deed.cell (wc4.alloc (.cells #[.slice a2 D1.length c2] 24)).heap.size (wc4.alloc (.cells #[.slice a2 D1.length c2] 24)) (.slice la l.length lcap) l) := (HL0.out.below ((Below.refl _ _).alloc (Nat.le_refl _) _)).more (by simp)
  replace HA : Hid (IsFl (wc4.alloc (.cells #[.slice a2 D1.length c2] 24)).heap.size (wc4.alloc (.cells #[.slice a2 D1.length c2] 24)) (.slice a1 RN.length c1) RN) := (HA.out.below ((Below.refl _ _).alloc (Nat.le_refl _) _)).more (by simp)
  replace H15 : Hid (CellsAt (wc4.alloc (.cells #[.slice a2 D1.length c2] 24)) (wc1.heap.size) 24 #[.slice a1 RN.length c1]) := H15.out.kept (World.grownBy_alloc _ _ none) (by simp)
  replace HDf : Hid (IsFl (wc4.alloc (.cells #[.slice a2 D1.length c2] 24)).heap.size (wc4.alloc (.cells #[.slice a2 D1.length c2] 24)) (.slice a2 D1.length c2) D1) := (HDf.out.below ((Below.refl _ _).alloc (Nat.le_refl _) _)).more (by simp)
  have H19 : Hid (CellsAt (wc4.alloc (.cells #[.slice a2 D1.length c2] 24)) (wc4.heap.size) 24 #[.slice a2 D1.length c2]) := by first | exact CellsAt.new _ _ _ | (have := CellsAt.new wc4 24 #[.slice a2 D1.length c2]; simp only [World.size_alloc] at this; exact this)
  go_wp2_with fail
  clear pl_Hf_0 pl_Hf_lt pl_Hd_0 pl_Hd_1 pl_Hd_2 pl_Hd_lt
  generalize (wc4.alloc (.cells #[.slice a2 D1.length c2] 24)) = w4 at *
  refine (HTO.out _ _ HF0.out).mono ?_
  rintro e wc6 ⟨⟨r3, rfl, hr3⟩, bb6⟩
  replace HB0 : Hid (Below w.heap.size w wc6) := HB0.out.trans (bb6.mono HB0.out.size)
  replace Hf : Hid (CellsAt wc6 (w.heap.size) 24 #[.slice ad nF cap]) := Hf.out.below bb6 Hf.out.lt
  replace Hd : Hid (CellsAt wc6 (w.heap.size + 1) 32 #[.int .i64 kd, .int .i64 ps, .int .i64 dv]) := Hd.out.below bb6 Hd.out.lt
  replace HF0 : Hid (IsFl wc6.heap.size wc6 (.slice ad nF cap) F) := (HF0.out.below bb6).more bb6.size
  replace HL0 : Hid (RowOf 3 Deed.cell wc6.heap.size wc6 (.slice la l.length lcap) l) := (HL0.out.below bb6).more bb6.size
  replace HA : Hid (IsFl wc6.heap.size wc6 (.slice a1 RN.length c1) RN) := (HA.out.below bb6).more bb6.size
  replace H15 : Hid (CellsAt wc6 (wc1.heap.size) 24 #[.slice a1 RN.length c1]) := H15.out.below bb6 H15.out.lt
  replace HDf : Hid (IsFl wc6.heap.size wc6 (.slice a2 D1.length c2) D1) := (HDf.out.below bb6).more bb6.size
  replace H19 : Hid (CellsAt wc6 (wc4.heap.size) 24 #[.slice a2 D1.length c2]) := H19.out.below bb6 H19.out.lt
  clear bb6
  obtain ⟨⟨a3, c3, rfl, _, _⟩, _⟩ := id hr3
  have HTf : Hid (IsFl wc6.heap.size wc6 (.slice a3 T1.length c3) T1) := hr3
  clear hr3 HTO
  have pl_Hf_0 := Hf.out.cell 0
  simp at pl_Hf_0
  have pl_Hf_lt := Hf.out.lt
  replace HB0 : Hid (Below w.heap.size w (wc6.alloc (.cells #[.slice a3 T1.length c3] 24))) := HB0.out.alloc HB0.out.size _
  replace Hf : Hid (CellsAt (wc6.alloc (.cells #[.slice a3 T1.length c3] 24)) (w.heap.size) 24 #[.slice ad nF cap]) := Hf.out.kept (World.grownBy_alloc _ _ none) (by simp)
  replace Hd : Hid (CellsAt (wc6.alloc (.cells #[.slice a3 T1.length c3] 24)) (w.heap.size + 1) 32 #[.int .i64 kd, .int .i64 ps, .int .i64 dv]) := Hd.out.kept (World.grownBy_alloc _ _ none) (by simp)
  replace HF0 : Hid (IsFl (wc6.alloc (.cells #[.slice a3 T1.length c3] 24)).heap.size (wc6.alloc (.cells #[.slice a3 T1.length c3] 24)) (.slice ad nF cap) F) := (HF0.out.below ((Below.refl _ _).alloc (Nat.le_refl _) _)).more (by simp)
  replace HL0 : Hid (RowOf 3 Deed.cell (wc6.alloc (.cells #[.slice a3 T1.length c3] 24)).heap.size (wc6.alloc (.cells #[.slice a3 T1.length c3] 24)) (.slice la l.length lcap) l) := (HL0.out.below ((Below.refl _ _).alloc (Nat.le_refl _) _)).more (by simp)
  replace HA : Hid (IsFl (wc6.alloc (.cells #[.slice a3 T1.length c3] 24)).heap.size (wc6.alloc (.cells #[.slice a3 T1.length c3] 24)) (.slice a1 RN.length c1) RN) := (HA.out.below ((Below.refl _ _).alloc (Nat.le_refl _) _)).more (by simp)
  replace H15 : Hid (CellsAt (wc6.alloc (.cells #[.slice a3 T1.length c3] 24)) (wc1.heap.size) 24 #[.slice a1 RN.length c1]) := H15.out.kept (World.grownBy_alloc _ _ none) (by simp)
  replace HDf : Hid (IsFl (wc6.alloc (.cells #[.slice a3 T1.length c3] 24)).heap.size (wc6.alloc (.cells #[.slice a3 T1.length c3] 24)) (.slice a2 D1.length c2) D1) := (HDf.out.below ((Below.refl _ _).alloc (Nat.le_refl _) _)).more (by simp)
  replace H19 : Hid (CellsAt (wc6.alloc (.cells #[.slice a3 T1.length c3] 24)) (wc4.heap.size) 24 #[.slice a2 D1.length c2]) := H19.out.kept (World.grownBy_alloc _ _ none) (by simp)
  replace HTf : Hid (IsFl (wc6.alloc (.cells #[.slice a3 T1.length c3] 24)).heap.size (wc6.alloc (.cells #[.slice a3 T1.length c3] 24)) (.slice a3 T1.length c3) T1) := (HTf.out.below ((Below.refl _ _).alloc (Nat.le_refl _) _)).more (by simp)
  have H21 : Hid (CellsAt (wc6.alloc (.cells #[.slice a3 T1.length c3] 24)) (wc6.heap.size) 24 #[.slice a3 T1.length c3]) := by first | exact CellsAt.new _ _ _ | (have := CellsAt.new wc6 24 #[.slice a3 T1.length c3]; simp only [World.size_alloc] at this; exact this)
  go_wp2_with fail
  clear pl_Hf_0 pl_Hf_lt
  generalize (wc6.alloc (.cells #[.slice a3 T1.length c3] 24)) = w6 at *
  refine (HCF.out _ _ HF0.out).mono ?_
  rintro e wc8 ⟨rfl, bb8⟩
  replace HB0 : Hid (Below w.heap.size w wc8) := HB0.out.trans (bb8.mono HB0.out.size)
  replace Hf : Hid (CellsAt wc8 (w.heap.size) 24 #[.slice ad nF cap]) := Hf.out.below bb8 Hf.out.lt
  replace Hd : Hid (CellsAt wc8 (w.heap.size + 1) 32 #[.int .i64 kd, .int .i64 ps, .int .i64 dv]) := Hd.out.below bb8 Hd.out.lt
  replace HF0 : Hid (IsFl wc8.heap.size wc8 (.slice ad nF cap) F) := (HF0.out.below bb8).more bb8.size
  replace HL0 : Hid (RowOf 3 Deed.cell wc8.heap.size wc8 (.slice la l.length lcap) l) := (HL0.out.below bb8).more bb8.size
  replace HA : Hid (IsFl wc8.heap.size wc8 (.slice a1 RN.length c1) RN) := (HA.out.below bb8).more bb8.size
  replace H15 : Hid (CellsAt wc8 (wc1.heap.size) 24 #[.slice a1 RN.length c1]) := H15.out.below bb8 H15.out.lt
  replace HDf : Hid (IsFl wc8.heap.size wc8 (.slice a2 D1.length c2) D1) := (HDf.out.below bb8).more bb8.size
  replace H19 : Hid (CellsAt wc8 (wc4.heap.size) 24 #[.slice a2 D1.length c2]) := H19.out.below bb8 H19.out.lt
  replace HTf : Hid (IsFl wc8.heap.size wc8 (.slice a3 T1.length c3) T1) := (HTf.out.below bb8).more bb8.size
  replace H21 : Hid (CellsAt wc8 (wc6.heap.size) 24 #[.slice a3 T1.length c3]) := H21.out.below bb8 H21.out.lt
  clear bb8
  clear HCF
  go_upto_region 6 with fail
  go_cut [65] from 66 (fun s65 wx => s65 = .bool (U != 0) ∧ wx = wc8)
  case first =>
    rcases KU.out with ⟨h1, h2, rfl⟩ | ⟨h1, rfl⟩ | ⟨h1, h2, rfl⟩
    · have d1 : decide (n < 1) = false := decide_eq_false (by omega)
      have d2 : decide (32 < n) = false := decide_eq_false (by omega)
      go_wp2_with fail
      go_meet
      exact ⟨rfl, rfl⟩
    · have d1 : decide (n < 1) = true := decide_eq_true h1
      go_wp2_with fail
      go_meet
      exact ⟨rfl, rfl⟩
    · have d1 : decide (n < 1) = false := decide_eq_false (by omega)
      have d2 : decide (32 < n) = true := decide_eq_true h2
      go_wp2_with fail
      go_meet
      exact ⟨rfl, rfl⟩
  case rest =>
  obtain ⟨rfl, rfl⟩ := hcut
  go_upto_if 65 with fail
  go_cut [23] from 66 (fun s23 wx => s23 = .int .i64 U ∧ wx = wc)
  case first =>
    rcases KU.out with ⟨h1, h2, rfl⟩ | ⟨h1, rfl⟩ | ⟨h1, h2, rfl⟩
    all_goals
      go_wp2_with fail
      go_meet
      exact ⟨rfl, rfl⟩
  case rest =>
  obtain ⟨rfl, rfl⟩ := hcut
  go_upto_region 8 with fail
  go_cut [25, 26, 27] from 66 (fun s25 s26 s27 wx => s25 = .int .i64 CF ∧ s26 = .int .i64 E1 ∧ s27 = .int .i64 E2 ∧ Hid (Below w.heap.size w wx) ∧ Hid (CellsAt wx (w.heap.size) 24 #[.slice ad nF cap]) ∧ Hid (CellsAt wx (w.heap.size + 1) 32 #[.int .i64 kd, .int .i64 ps, .int .i64 dv]) ∧ Hid (IsFl wx.heap.size wx (.slice ad nF cap) F) ∧ Hid (RowOf 3 Deed.cell wx.heap.size wx (.slice la l.length lcap) l) ∧ Hid (IsFl wx.heap.size wx (.slice a1 RN.length c1) RN) ∧ Hid (CellsAt wx (wc1.heap.size) 24 #[.slice a1 RN.length c1]) ∧ Hid (IsFl wx.heap.size wx (.slice a2 D1.length c2) D1) ∧ Hid (CellsAt wx (wc4.heap.size) 24 #[.slice a2 D1.length c2]) ∧ Hid (IsFl wx.heap.size wx (.slice a3 T1.length c3) T1) ∧ Hid (CellsAt wx (wc6.heap.size) 24 #[.slice a3 T1.length c3]))
  case first =>
    replace HB0 : Hid (Below w.heap.size w wc.drew) := HB0.out.drew
    replace Hf : Hid (CellsAt wc.drew (w.heap.size) 24 #[.slice ad nF cap]) := (Hf.out : _)
    replace Hd : Hid (CellsAt wc.drew (w.heap.size + 1) 32 #[.int .i64 kd, .int .i64 ps, .int .i64 dv]) := (Hd.out : _)
    replace HF0 : Hid (IsFl wc.drew.heap.size wc.drew (.slice ad nF cap) F) := (HF0.out : _)
    replace HL0 : Hid (RowOf 3 Deed.cell wc.drew.heap.size wc.drew (.slice la l.length lcap) l) := (HL0.out : _)
    replace HA : Hid (IsFl wc.drew.heap.size wc.drew (.slice a1 RN.length c1) RN) := (HA.out : _)
    replace H15 : Hid (CellsAt wc.drew (wc1.heap.size) 24 #[.slice a1 RN.length c1]) := (H15.out : _)
    replace HDf : Hid (IsFl wc.drew.heap.size wc.drew (.slice a2 D1.length c2) D1) := (HDf.out : _)
    replace H19 : Hid (CellsAt wc.drew (wc4.heap.size) 24 #[.slice a2 D1.length c2]) := (H19.out : _)
    replace HTf : Hid (IsFl wc.drew.heap.size wc.drew (.slice a3 T1.length c3) T1) := (HTf.out : _)
    replace H21 : Hid (CellsAt wc.drew (wc6.heap.size) 24 #[.slice a3 T1.length c3]) := (H21.out : _)
    refine wp_region_noPanic ?_
    refine wp_region_L (S := fun w' => CellsAt w' w.heap.size 24 #[.slice ad nF cap] ∧ CellsAt w' (w.heap.size + 1) 32 #[.int .i64 kd, .int .i64 ps, .int .i64 dv]) (x := 10) (by kernel_rfl) ?_
    generalize wc.drew = wd at *
    have hS0 : CellsAt wd w.heap.size 24 #[.slice ad nF cap] ∧ CellsAt wd (w.heap.size + 1) 32 #[.int .i64 kd, .int .i64 ps, .int .i64 dv] := ⟨Hf.out, Hd.out⟩
    refine wpL_take 0 66 (.int .i64 CF) rfl (by kernel_rfl) (fun _ _ _ h => h) hS0 rfl rfl (fun w' hSw => by clear hSw; go_simp) ?_
    simp only [List.setIfInBounds_toArray, List.set_cons_zero, List.set_cons_succ]
    refine wpL_take 1 67 (.agg #[.slice ad nF cap]) rfl (by kernel_rfl) (fun _ _ _ h => h) hS0 rfl rfl (fun w' hSw => by have q := hSw.1.cell 0; have q0 := hSw.2.cell 0; have q1 := hSw.2.cell 1; have q2 := hSw.2.cell 2; simp at q q0 q1 q2; clear hSw; go_simp) ?_
    simp only [List.setIfInBounds_toArray, List.set_cons_zero, List.set_cons_succ]
    refine wpL_take 2 68 (.slice la l.length lcap) rfl (by kernel_rfl) (fun _ _ _ h => h) hS0 rfl rfl (fun w' hSw => by clear hSw; go_simp) ?_
    simp only [List.setIfInBounds_toArray, List.set_cons_zero, List.set_cons_succ]
    refine wpL_take 4 70 (.agg #[.slice ad nF cap]) rfl (by kernel_rfl) (fun _ _ _ h => h) hS0 rfl rfl (fun w' hSw => by have q := hSw.1.cell 0; have q0 := hSw.2.cell 0; have q1 := hSw.2.cell 1; have q2 := hSw.2.cell 2; simp at q q0 q1 q2; clear hSw; go_simp) ?_
    simp only [List.setIfInBounds_toArray, List.set_cons_zero, List.set_cons_succ]
    refine wpL_take 5 71 (.agg #[.int .i64 kd, .int .i64 ps, .int .i64 dv]) rfl (by kernel_rfl) (fun _ _ _ h => h) hS0 rfl rfl (fun w' hSw => by have q := hSw.1.cell 0; have q0 := hSw.2.cell 0; have q1 := hSw.2.cell 1; have q2 := hSw.2.cell 2; simp at q q0 q1 q2; clear hSw; go_simp) ?_
    simp only [List.setIfInBounds_toArray, List.set_cons_zero, List.set_cons_succ]
    refine wpL_two (i := 3) (j := 6) rfl rfl (by kernel_rfl) (fun K hK => ?_) (fun K hK => ?_)
    · clear hS0
      go_simp
      refine (HC1.out _ _ _ HF0.out HL0.out).mono ?_
      rintro e wc9 ⟨rfl, bb9⟩
      replace HB0 : Hid (Below w.heap.size w wc9) := HB0.out.trans (bb9.mono HB0.out.size)
      replace Hf : Hid (CellsAt wc9 (w.heap.size) 24 #[.slice ad nF cap]) := Hf.out.below bb9 Hf.out.lt
      replace Hd : Hid (CellsAt wc9 (w.heap.size + 1) 32 #[.int .i64 kd, .int .i64 ps, .int .i64 dv]) := Hd.out.below bb9 Hd.out.lt
      replace HF0 : Hid (IsFl wc9.heap.size wc9 (.slice ad nF cap) F) := (HF0.out.below bb9).more bb9.size
      replace HL0 : Hid (RowOf 3 Deed.cell wc9.heap.size wc9 (.slice la l.length lcap) l) := (HL0.out.below bb9).more bb9.size
      replace HA : Hid (IsFl wc9.heap.size wc9 (.slice a1 RN.length c1) RN) := (HA.out.below bb9).more bb9.size
      replace H15 : Hid (CellsAt wc9 (wc1.heap.size) 24 #[.slice a1 RN.length c1]) := H15.out.below bb9 H15.out.lt
      replace HDf : Hid (IsFl wc9.heap.size wc9 (.slice a2 D1.length c2) D1) := (HDf.out.below bb9).more bb9.size
      replace H19 : Hid (CellsAt wc9 (wc4.heap.size) 24 #[.slice a2 D1.length c2]) := H19.out.below bb9 H19.out.lt
      replace HTf : Hid (IsFl wc9.heap.size wc9 (.slice a3 T1.length c3) T1) := (HTf.out.below bb9).more bb9.size
      replace H21 : Hid (CellsAt wc9 (wc6.heap.size) 24 #[.slice a3 T1.length c3]) := H21.out.below bb9 H21.out.lt
      clear bb9
      go_simp
      refine hK.out _ _ ⟨Hf.out, Hd.out⟩ (fun _ => ?_)
      clear hK K
      refine wpL_step (i := 6) rfl (by kernel_rfl) (fun K hK => ?_)
      go_simp
      replace HB0 : Hid (Below w.heap.size w (wc9.alloc (.cells #[.int .i64 kd, .int .i64 ps, .int .i64 dv] 32))) := HB0.out.alloc HB0.out.size _
      replace Hf : Hid (CellsAt (wc9.alloc (.cells #[.int .i64 kd, .int .i64 ps, .int .i64 dv] 32)) (w.heap.size) 24 #[.slice ad nF cap]) := Hf.out.kept (World.grownBy_alloc _ _ none) (by simp)
      replace Hd : Hid (CellsAt (wc9.alloc (.cells #[.int .i64 kd, .int .i64 ps, .int .i64 dv] 32)) (w.heap.size + 1) 32 #[.int .i64 kd, .int .i64 ps, .int .i64 dv]) := Hd.out.kept (World.grownBy_alloc _ _ none) (by simp)
      replace HF0 : Hid (IsFl (wc9.alloc (.cells #[.int .i64 kd, .int .i64 ps, .int .i64 dv] 32)).heap.size (wc9.alloc (.cells #[.int .i64 kd, .int .i64 ps, .int .i64 dv] 32)) (.slice ad nF cap) F) := (HF0.out.below ((Below.refl _ _).alloc (Nat.le_refl _) _)).more (by simp)
      replace HL0 : Hid (RowOf 3 Deed.cell (wc9.alloc (.cells #[.int .i64 kd, .int .i64 ps, .int .i64 dv] 32)).heap.size (wc9.alloc (.cells #[.int .i64 kd, .int .i64 ps, .int .i64 dv] 32)) (.slice la l.length lcap) l) := (HL0.out.below ((Below.refl _ _).alloc (Nat.le_refl _) _)).more (by simp)
      replace HA : Hid (IsFl (wc9.alloc (.cells #[.int .i64 kd, .int .i64 ps, .int .i64 dv] 32)).heap.size (wc9.alloc (.cells #[.int .i64 kd, .int .i64 ps, .int .i64 dv] 32)) (.slice a1 RN.length c1) RN) := (HA.out.below ((Below.refl _ _).alloc (Nat.le_refl _) _)).more (by simp)
      replace H15 : Hid (CellsAt (wc9.alloc (.cells #[.int .i64 kd, .int .i64 ps, .int .i64 dv] 32)) (wc1.heap.size) 24 #[.slice a1 RN.length c1]) := H15.out.kept (World.grownBy_alloc _ _ none) (by simp)
      replace HDf : Hid (IsFl (wc9.alloc (.cells #[.int .i64 kd, .int .i64 ps, .int .i64 dv] 32)).heap.size (wc9.alloc (.cells #[.int .i64 kd, .int .i64 ps, .int .i64 dv] 32)) (.slice a2 D1.length c2) D1) := (HDf.out.below ((Below.refl _ _).alloc (Nat.le_refl _) _)).more (by simp)
      replace H19 : Hid (CellsAt (wc9.alloc (.cells #[.int .i64 kd, .int .i64 ps, .int .i64 dv] 32)) (wc4.heap.size) 24 #[.slice a2 D1.length c2]) := H19.out.kept (World.grownBy_alloc _ _ none) (by simp)
      replace HTf : Hid (IsFl (wc9.alloc (.cells #[.int .i64 kd, .int .i64 ps, .int .i64 dv] 32)).heap.size (wc9.alloc (.cells #[.int .i64 kd, .int .i64 ps, .int .i64 dv] 32)) (.slice a3 T1.length c3) T1) := (HTf.out.below ((Below.refl _ _).alloc (Nat.le_refl _) _)).more (by simp)
      replace H21 : Hid (CellsAt (wc9.alloc (.cells #[.int .i64 kd, .int .i64 ps, .int .i64 dv] 32)) (wc6.heap.size) 24 #[.slice a3 T1.length c3]) := H21.out.kept (World.grownBy_alloc _ _ none) (by simp)
      have HRw : Hid (RowOf 3 Deed.cell (wc9.alloc (.cells #[.int .i64 kd, .int .i64 ps, .int .i64 dv] 32)).heap.size (wc9.alloc (.cells #[.int .i64 kd, .int .i64 ps, .int .i64 dv] 32)) (.slice (some ⟨wc9.heap.size, 0, none⟩) 1 1) dl) := HROW.out _ _ (by simp)
      refine hK.out _ _ ⟨Hf.out, Hd.out⟩ (fun _ => ?_)
      clear hK K
      generalize (wc9.alloc (.cells #[.int .i64 kd, .int .i64 ps, .int .i64 dv] 32)) = we at *
      refine wpL_step (i := 7) rfl (by kernel_rfl) (fun K hK => ?_)
      go_simp
      refine (HC2.out _ _ _ HF0.out HRw.out).mono ?_
      rintro e wc11 ⟨rfl, bb11⟩
      replace HB0 : Hid (Below w.heap.size w wc11) := HB0.out.trans (bb11.mono HB0.out.size)
      replace Hf : Hid (CellsAt wc11 (w.heap.size) 24 #[.slice ad nF cap]) := Hf.out.below bb11 Hf.out.lt
      replace Hd : Hid (CellsAt wc11 (w.heap.size + 1) 32 #[.int .i64 kd, .int .i64 ps, .int .i64 dv]) := Hd.out.below bb11 Hd.out.lt
      replace HF0 : Hid (IsFl wc11.heap.size wc11 (.slice ad nF cap) F) := (HF0.out.below bb11).more bb11.size
      replace HL0 : Hid (RowOf 3 Deed.cell wc11.heap.size wc11 (.slice la l.length lcap) l) := (HL0.out.below bb11).more bb11.size
      replace HA : Hid (IsFl wc11.heap.size wc11 (.slice a1 RN.length c1) RN) := (HA.out.below bb11).more bb11.size
      replace H15 : Hid (CellsAt wc11 (wc1.heap.size) 24 #[.slice a1 RN.length c1]) := H15.out.below bb11 H15.out.lt
      replace HDf : Hid (IsFl wc11.heap.size wc11 (.slice a2 D1.length c2) D1) := (HDf.out.below bb11).more bb11.size
      replace H19 : Hid (CellsAt wc11 (wc4.heap.size) 24 #[.slice a2 D1.length c2]) := H19.out.below bb11 H19.out.lt
      replace HTf : Hid (IsFl wc11.heap.size wc11 (.slice a3 T1.length c3) T1) := (HTf.out.below bb11).more bb11.size
      replace H21 : Hid (CellsAt wc11 (wc6.heap.size) 24 #[.slice a3 T1.length c3]) := H21.out.below bb11 H21.out.lt
      replace HRw : Hid (RowOf 3 Deed.cell wc11.heap.size wc11 (.slice (some ⟨wc9.heap.size, 0, none⟩) 1 1) dl) := (HRw.out.below bb11).more bb11.size
      clear bb11
      go_simp
      refine hK.out _ _ ⟨Hf.out, Hd.out⟩ (fun _ => ?_)
      clear hK K
      refine wpL_take 8 25 (.int .i64 CF) rfl (by kernel_rfl) (fun _ _ _ h => h) (show _ ∧ _ from ⟨Hf.out, Hd.out⟩) rfl rfl (fun w' hSw => by clear hSw; go_simp) ?_
      simp only [List.setIfInBounds_toArray, List.set_cons_zero, List.set_cons_succ]
      refine wpL_take 9 26 (.int .i64 E1) rfl (by kernel_rfl) (fun _ _ _ h => h) (show _ ∧ _ from ⟨Hf.out, Hd.out⟩) rfl rfl (fun w' hSw => by clear hSw; go_simp) ?_
      simp only [List.setIfInBounds_toArray, List.set_cons_zero, List.set_cons_succ]
      refine wpL_last (x := 10) rfl (by kernel_rfl) (by kernel_rfl) (fun K hK => ?_)
      go_simp
      refine hK.out _ _ ?_
      refine NoPanic.normal ?_
      clear hK K
      go_wp2_with fail
      go_meet
      exact ⟨rfl, rfl, rfl, HB0, Hf, Hd, HF0, HL0, HA, H15, HDf, H19, HTf, H21⟩
    · clear hS0
      go_simp
      replace HB0 : Hid (Below w.heap.size w (wd.alloc (.cells #[.int .i64 kd, .int .i64 ps, .int .i64 dv] 32))) := HB0.out.alloc HB0.out.size _
      replace Hf : Hid (CellsAt (wd.alloc (.cells #[.int .i64 kd, .int .i64 ps, .int .i64 dv] 32)) (w.heap.size) 24 #[.slice ad nF cap]) := Hf.out.kept (World.grownBy_alloc _ _ none) (by simp)
      replace Hd : Hid (CellsAt (wd.alloc (.cells #[.int .i64 kd, .int .i64 ps, .int .i64 dv] 32)) (w.heap.size + 1) 32 #[.int .i64 kd, .int .i64 ps, .int .i64 dv]) := Hd.out.kept (World.grownBy_alloc _ _ none) (by simp)
      replace HF0 : Hid (IsFl (wd.alloc (.cells #[.int .i64 kd, .int .i64 ps, .int .i64 dv] 32)).heap.size (wd.alloc (.cells #[.int .i64 kd, .int .i64 ps, .int .i64 dv] 32)) (.slice ad nF cap) F) := (HF0.out.below ((Below.refl _ _).alloc (Nat.le_refl _) _)).more (by simp)
      replace HL0 : Hid (RowOf 3 Deed.cell (wd.alloc (.cells #[.int .i64 kd, .int .i64 ps, .int .i64 dv] 32)).heap.size (wd.alloc (.cells #[.int .i64 kd, .int .i64 ps, .int .i64 dv] 32)) (.slice la l.length lcap) l) := (HL0.out.below ((Below.refl _ _).alloc (Nat.le_refl _) _)).more (by simp)
      replace HA : Hid (IsFl (wd.alloc (.cells #[.int .i64 kd, .int .i64 ps, .int .i64 dv] 32)).heap.size (wd.alloc (.cells #[.int .i64 kd, .int .i64 ps, .int .i64 dv] 32)) (.slice a1 RN.length c1) RN) := (HA.out.below ((Below.refl _ _).alloc (Nat.le_refl _) _)).more (by simp)
      replace H15 : Hid (CellsAt (wd.alloc (.cells #[.int .i64 kd, .int .i64 ps, .int .i64 dv] 32)) (wc1.heap.size) 24 #[.slice a1 RN.length c1]) := H15.out.kept (World.grownBy_alloc _ _ none) (by simp)
      replace HDf : Hid (IsFl (wd.alloc (.cells #[.int .i64 kd, .int .i64 ps, .int .i64 dv] 32)).heap.size (wd.alloc (.cells #[.int .i64 kd, .int .i64 ps, .int .i64 dv] 32)) (.slice a2 D1.length c2) D1) := (HDf.out.below ((Below.refl _ _).alloc (Nat.le_refl _) _)).more (by simp)
      replace H19 : Hid (CellsAt (wd.alloc (.cells #[.int .i64 kd, .int .i64 ps, .int .i64 dv] 32)) (wc4.heap.size) 24 #[.slice a2 D1.length c2]) := H19.out.kept (World.grownBy_alloc _ _ none) (by simp)
      replace HTf : Hid (IsFl (wd.alloc (.cells #[.int .i64 kd, .int .i64 ps, .int .i64 dv] 32)).heap.size (wd.alloc (.cells #[.int .i64 kd, .int .i64 ps, .int .i64 dv] 32)) (.slice a3 T1.length c3) T1) := (HTf.out.below ((Below.refl _ _).alloc (Nat.le_refl _) _)).more (by simp)
      replace H21 : Hid (CellsAt (wd.alloc (.cells #[.int .i64 kd, .int .i64 ps, .int .i64 dv] 32)) (wc6.heap.size) 24 #[.slice a3 T1.length c3]) := H21.out.kept (World.grownBy_alloc _ _ none) (by simp)
      have HRw : Hid (RowOf 3 Deed.cell (wd.alloc (.cells #[.int .i64 kd, .int .i64 ps, .int .i64 dv] 32)).heap.size (wd.alloc (.cells #[.int .i64 kd, .int .i64 ps, .int .i64 dv] 32)) (.slice (some ⟨wd.heap.size, 0, none⟩) 1 1) dl) := HROW.out _ _ (by simp)
      refine hK.out _ _ ⟨Hf.out, Hd.out⟩ (fun _ => ?_)
      clear hK K
      generalize (wd.alloc (.cells #[.int .i64 kd, .int .i64 ps, .int .i64 dv] 32)) = we at *
      refine wpL_step (i := 3) rfl (by kernel_rfl) (fun K hK => ?_)
      go_simp
      refine (HC1.out _ _ _ HF0.out HL0.out).mono ?_
      rintro e wc13 ⟨rfl, bb13⟩
      replace HB0 : Hid (Below w.heap.size w wc13) := HB0.out.trans (bb13.mono HB0.out.size)
      replace Hf : Hid (CellsAt wc13 (w.heap.size) 24 #[.slice ad nF cap]) := Hf.out.below bb13 Hf.out.lt
      replace Hd : Hid (CellsAt wc13 (w.heap.size + 1) 32 #[.int .i64 kd, .int .i64 ps, .int .i64 dv]) := Hd.out.below bb13 Hd.out.lt
      replace HF0 : Hid (IsFl wc13.heap.size wc13 (.slice ad nF cap) F) := (HF0.out.below bb13).more bb13.size
      replace HL0 : Hid (RowOf 3 Deed.cell wc13.heap.size wc13 (.slice la l.length lcap) l) := (HL0.out.below bb13).more bb13.size
      replace HA : Hid (IsFl wc13.heap.size wc13 (.slice a1 RN.length c1) RN) := (HA.out.below bb13).more bb13.size
      replace H15 : Hid (CellsAt wc13 (wc1.heap.size) 24 #[.slice a1 RN.length c1]) := H15.out.below bb13 H15.out.lt
      replace HDf : Hid (IsFl wc13.heap.size wc13 (.slice a2 D1.length c2) D1) := (HDf.out.below bb13).more bb13.size
      replace H19 : Hid (CellsAt wc13 (wc4.heap.size) 24 #[.slice a2 D1.length c2]) := H19.out.below bb13 H19.out.lt
      replace HTf : Hid (IsFl wc13.heap.size wc13 (.slice a3 T1.length c3) T1) := (HTf.out.below bb13).more bb13.size
      replace H21 : Hid (CellsAt wc13 (wc6.heap.size) 24 #[.slice a3 T1.length c3]) := H21.out.below bb13 H21.out.lt
      replace HRw : Hid (RowOf 3 Deed.cell wc13.heap.size wc13 (.slice (some ⟨wd.heap.size, 0, none⟩) 1 1) dl) := (HRw.out.below bb13).more bb13.size
      clear bb13
      go_simp
      refine hK.out _ _ ⟨Hf.out, Hd.out⟩ (fun _ => ?_)
      clear hK K
      refine wpL_step (i := 7) rfl (by kernel_rfl) (fun K hK => ?_)
      go_simp
      refine (HC2.out _ _ _ HF0.out HRw.out).mono ?_
      rintro e wc14 ⟨rfl, bb14⟩
      replace HB0 : Hid (Below w.heap.size w wc14) := HB0.out.trans (bb14.mono HB0.out.size)
      replace Hf : Hid (CellsAt wc14 (w.heap.size) 24 #[.slice ad nF cap]) := Hf.out.below bb14 Hf.out.lt
      replace Hd : Hid (CellsAt wc14 (w.heap.size + 1) 32 #[.int .i64 kd, .int .i64 ps, .int .i64 dv]) := Hd.out.below bb14 Hd.out.lt
      replace HF0 : Hid (IsFl wc14.heap.size wc14 (.slice ad nF cap) F) := (HF0.out.below bb14).more bb14.size
      replace HL0 : Hid (RowOf 3 Deed.cell wc14.heap.size wc14 (.slice la l.length lcap) l) := (HL0.out.below bb14).more bb14.size
      replace HA : Hid (IsFl wc14.heap.size wc14 (.slice a1 RN.length c1) RN) := (HA.out.below bb14).more bb14.size
      replace H15 : Hid (CellsAt wc14 (wc1.heap.size) 24 #[.slice a1 RN.length c1]) := H15.out.below bb14 H15.out.lt
      replace HDf : Hid (IsFl wc14.heap.size wc14 (.slice a2 D1.length c2) D1) := (HDf.out.below bb14).more bb14.size
      replace H19 : Hid (CellsAt wc14 (wc4.heap.size) 24 #[.slice a2 D1.length c2]) := H19.out.below bb14 H19.out.lt
      replace HTf : Hid (IsFl wc14.heap.size wc14 (.slice a3 T1.length c3) T1) := (HTf.out.below bb14).more bb14.size
      replace H21 : Hid (CellsAt wc14 (wc6.heap.size) 24 #[.slice a3 T1.length c3]) := H21.out.below bb14 H21.out.lt
      replace HRw : Hid (RowOf 3 Deed.cell wc14.heap.size wc14 (.slice (some ⟨wd.heap.size, 0, none⟩) 1 1) dl) := (HRw.out.below bb14).more bb14.size
      clear bb14
      go_simp
      refine hK.out _ _ ⟨Hf.out, Hd.out⟩ (fun _ => ?_)
      clear hK K
      refine wpL_take 8 25 (.int .i64 CF) rfl (by kernel_rfl) (fun _ _ _ h => h) (show _ ∧ _ from ⟨Hf.out, Hd.out⟩) rfl rfl (fun w' hSw => by clear hSw; go_simp) ?_
      simp only [List.setIfInBounds_toArray, List.set_cons_zero, List.set_cons_succ]
      refine wpL_take 9 26 (.int .i64 E1) rfl (by kernel_rfl) (fun _ _ _ h => h) (show _ ∧ _ from ⟨Hf.out, Hd.out⟩) rfl rfl (fun w' hSw => by clear hSw; go_simp) ?_
      simp only [List.setIfInBounds_toArray, List.set_cons_zero, List.set_cons_succ]
      refine wpL_last (x := 10) rfl (by kernel_rfl) (by kernel_rfl) (fun K hK => ?_)
      go_simp
      refine hK.out _ _ ?_
      refine NoPanic.normal ?_
      clear hK K
      go_wp2_with fail
      go_meet
      exact ⟨rfl, rfl, rfl, HB0, Hf, Hd, HF0, HL0, HA, H15, HDf, H19, HTf, H21⟩
  case rest =>
  obtain ⟨rfl, rfl, rfl, HB0, Hf, Hd, HF0, HL0, HA, H15, HDf, H19, HTf, H21⟩ := hcut
  obtain ⟨w10, hw10⟩ : ∃ x, x = wc := ⟨_, rfl⟩
  subst hw10
  clear HC1 HC2 HROW
  have pl_Hf_0 := Hf.out.cell 0
  simp at pl_Hf_0
  have pl_Hf_lt := Hf.out.lt
  go_upto_region 10 with fail
  clear pl_Hf_0 pl_Hf_lt
  have HNN : Hid (CF = 0 → wrap64 ((nF : Int) * 128) = (nF : Int) * 128) := fun h => by
    have := (KSZ.out h).2
    unfold wrap64; omega
  generalize wrap64 ((nF : Int) * 128) = NN at *
  go_cut [99] from 100 (fun s99 wx => (∃ bq : Bool, s99 = .bool bq ∧ Hid ((bq = true ∧ RW = 3) ∨ (bq = false ∧ RW = CF))) ∧ wx = w10)
  case first =>
    rcases KR.out with ⟨h0, -, h⟩ | ⟨h0, ⟨h1, -, h⟩ | ⟨h1, h2, -, h⟩ | ⟨h1, h2, h3, -, h⟩ | ⟨h1, h2, h3, h4, -, h⟩ | ⟨an, mn, h1, h2, h3, -, h⟩⟩
    · have h0' : (CF == 0) = false := by simpa using h0
      clear h0
      go_wp2_with fail
      go_meet
      exact ⟨⟨false, rfl, .inr ⟨rfl, h⟩⟩, rfl⟩
    all_goals
      have hn32 := (KSZ.out h0).2
      have ew := HNN.out h0
      have h0' : (CF == 0) = true := by rw [h0]; rfl
    · have d1 : decide (a < 0) = true := decide_eq_true h1
      clear h0 h1 hn32 ew
      go_wp2_with fail
      go_meet
      exact ⟨⟨true, rfl, .inl ⟨rfl, h⟩⟩, rfl⟩
    · have d1 : decide (a < 0) = false := decide_eq_false (by omega)
      have d2 : decide (m < 0) = true := decide_eq_true h2
      clear h0 h1 h2 hn32 ew
      go_wp2_with fail
      go_meet
      exact ⟨⟨true, rfl, .inl ⟨rfl, h⟩⟩, rfl⟩
    · have d1 : decide (a < 0) = false := decide_eq_false (by omega)
      have d2 : decide (m < 0) = false := decide_eq_false (by omega)
      have d3 : decide (NN < a) = true := decide_eq_true (by omega)
      clear h0 h1 h2 h3 hn32 ew
      go_wp2_with fail
      go_meet
      exact ⟨⟨true, rfl, .inl ⟨rfl, h⟩⟩, rfl⟩
    · have d1 : decide (a < 0) = false := decide_eq_false (by omega)
      have d2 : decide (m < 0) = false := decide_eq_false (by omega)
      have d3 : decide (NN < a) = false := decide_eq_false (by omega)
      have d4 : decide (NN - a < m) = true := decide_eq_true (by omega)
      have ex : wrap64 (NN - a) = NN - a := by unfold wrap64; omega
      clear h0 h1 h2 h3 h4 hn32 ew
      go_wp2_with fail
      go_meet
      exact ⟨⟨true, rfl, .inl ⟨rfl, h⟩⟩, rfl⟩
    · have d1 : decide (a < 0) = false := decide_eq_false (by omega)
      have d2 : decide (m < 0) = false := decide_eq_false (by omega)
      have d3 : decide (NN < a) = false := decide_eq_false (by omega)
      have d4 : decide (NN - a < m) = false := decide_eq_false (by omega)
      have ex : wrap64 (NN - a) = NN - a := by unfold wrap64; omega
      have hrw : Hid (RW = CF) := by show RW = CF; rw [h, h0]
      clear h0 h1 h2 h3 h hn32 ew
      go_wp2_with fail
      go_meet
      exact ⟨⟨false, rfl, .inr ⟨rfl, hrw.out⟩⟩, rfl⟩
  case rest =>
  obtain ⟨⟨bq, rfl, HBQ⟩, rfl⟩ := hcut
  go_upto_if 99 with fail
  go_cut [25] from 100 (fun s25 wx => s25 = .int .i64 RW ∧ wx = wc)
  case first =>
    rcases HBQ.out with ⟨rfl, hr⟩ | ⟨rfl, hr⟩
    · have hr' : Hid (RW = 3) := hr
      clear hr
      go_wp2_with fail
      go_meet
      exact ⟨by rw [hr'.out], rfl⟩
    · have hr' : Hid (RW = CF) := hr
      clear hr
      go_wp2_with fail
      go_meet
      exact ⟨by rw [hr'.out], rfl⟩
  case rest =>
  obtain ⟨rfl, rfl⟩ := hcut
  go_upto_region 14 with fail
  clear HBQ HNN
  obtain ⟨w12, hw12⟩ : ∃ x, x = wc := ⟨_, rfl⟩
  subst hw12
  have LTHf := Hf.out.lt
  have LTHd := Hd.out.lt
  have LTH15 := H15.out.lt
  have LTH19 := H19.out.lt
  have LTH21 := H21.out.lt
  replace HB0 : Hid (Below w.heap.size w (w12.alloc (.cells #[.slice none 0 0] 24))) := HB0.out.alloc HB0.out.size _
  replace Hf : Hid (CellsAt (w12.alloc (.cells #[.slice none 0 0] 24)) (w.heap.size) 24 #[.slice ad nF cap]) := Hf.out.kept (World.grownBy_alloc _ _ none) (by simp)
  replace Hd : Hid (CellsAt (w12.alloc (.cells #[.slice none 0 0] 24)) (w.heap.size + 1) 32 #[.int .i64 kd, .int .i64 ps, .int .i64 dv]) := Hd.out.kept (World.grownBy_alloc _ _ none) (by simp)
  replace HF0 : Hid (IsFl (w12.alloc (.cells #[.slice none 0 0] 24)).heap.size (w12.alloc (.cells #[.slice none 0 0] 24)) (.slice ad nF cap) F) := (HF0.out.below ((Below.refl _ _).alloc (Nat.le_refl _) _)).more (by simp)
  replace HL0 : Hid (RowOf 3 Deed.cell (w12.alloc (.cells #[.slice none 0 0] 24)).heap.size (w12.alloc (.cells #[.slice none 0 0] 24)) (.slice la l.length lcap) l) := (HL0.out.below ((Below.refl _ _).alloc (Nat.le_refl _) _)).more (by simp)
  replace HA : Hid (IsFl (w12.alloc (.cells #[.slice none 0 0] 24)).heap.size (w12.alloc (.cells #[.slice none 0 0] 24)) (.slice a1 RN.length c1) RN) := (HA.out.below ((Below.refl _ _).alloc (Nat.le_refl _) _)).more (by simp)
  replace H15 : Hid (CellsAt (w12.alloc (.cells #[.slice none 0 0] 24)) (wc1.heap.size) 24 #[.slice a1 RN.length c1]) := H15.out.kept (World.grownBy_alloc _ _ none) (by simp)
  replace HDf : Hid (IsFl (w12.alloc (.cells #[.slice none 0 0] 24)).heap.size (w12.alloc (.cells #[.slice none 0 0] 24)) (.slice a2 D1.length c2) D1) := (HDf.out.below ((Below.refl _ _).alloc (Nat.le_refl _) _)).more (by simp)
  replace H19 : Hid (CellsAt (w12.alloc (.cells #[.slice none 0 0] 24)) (wc4.heap.size) 24 #[.slice a2 D1.length c2]) := H19.out.kept (World.grownBy_alloc _ _ none) (by simp)
  replace HTf : Hid (IsFl (w12.alloc (.cells #[.slice none 0 0] 24)).heap.size (w12.alloc (.cells #[.slice none 0 0] 24)) (.slice a3 T1.length c3) T1) := (HTf.out.below ((Below.refl _ _).alloc (Nat.le_refl _) _)).more (by simp)
  replace H21 : Hid (CellsAt (w12.alloc (.cells #[.slice none 0 0] 24)) (wc6.heap.size) 24 #[.slice a3 T1.length c3]) := H21.out.kept (World.grownBy_alloc _ _ none) (by simp)
  have H29 : Hid (CellsAt (w12.alloc (.cells #[.slice none 0 0] 24)) (w12.heap.size) 24 #[.slice none 0 0]) := by first | exact CellsAt.new _ _ _ | (have := CellsAt.new w12 24 #[.slice none 0 0]; simp only [World.size_alloc] at this; exact this)
  replace HB0 : Hid (Below w.heap.size w ((w12.alloc (.cells #[.slice none 0 0] 24)).alloc (.cells #[.slice none 0 0] 24))) := HB0.out.alloc HB0.out.size _
  replace Hf : Hid (CellsAt ((w12.alloc (.cells #[.slice none 0 0] 24)).alloc (.cells #[.slice none 0 0] 24)) (w.heap.size) 24 #[.slice ad nF cap]) := Hf.out.kept (World.grownBy_alloc _ _ none) (by simp)
  replace Hd : Hid (CellsAt ((w12.alloc (.cells #[.slice none 0 0] 24)).alloc (.cells #[.slice none 0 0] 24)) (w.heap.size + 1) 32 #[.int .i64 kd, .int .i64 ps, .int .i64 dv]) := Hd.out.kept (World.grownBy_alloc _ _ none) (by simp)
  replace HF0 : Hid (IsFl ((w12.alloc (.cells #[.slice none 0 0] 24)).alloc (.cells #[.slice none 0 0] 24)).heap.size ((w12.alloc (.cells #[.slice none 0 0] 24)).alloc (.cells #[.slice none 0 0] 24)) (.slice ad nF cap) F) := (HF0.out.below ((Below.refl _ _).alloc (Nat.le_refl _) _)).more (by simp)
  replace HL0 : Hid (RowOf 3 Deed.cell ((w12.alloc (.cells #[.slice none 0 0] 24)).alloc (.cells #[.slice none 0 0] 24)).heap.size ((w12.alloc (.cells #[.slice none 0 0] 24)).alloc (.cells #[.slice none 0 0] 24)) (.slice la l.length lcap) l) := (HL0.out.below ((Below.refl _ _).alloc (Nat.le_refl _) _)).more (by simp)
  replace HA : Hid (IsFl ((w12.alloc (.cells #[.slice none 0 0] 24)).alloc (.cells #[.slice none 0 0] 24)).heap.size ((w12.alloc (.cells #[.slice none 0 0] 24)).alloc (.cells #[.slice none 0 0] 24)) (.slice a1 RN.length c1) RN) := (HA.out.below ((Below.refl _ _).alloc (Nat.le_refl _) _)).more (by simp)
  replace H15 : Hid (CellsAt ((w12.alloc (.cells #[.slice none 0 0] 24)).alloc (.cells #[.slice none 0 0] 24)) (wc1.heap.size) 24 #[.slice a1 RN.length c1]) := H15.out.kept (World.grownBy_alloc _ _ none) (by simp)
  replace HDf : Hid (IsFl ((w12.alloc (.cells #[.slice none 0 0] 24)).alloc (.cells #[.slice none 0 0] 24)).heap.size ((w12.alloc (.cells #[.slice none 0 0] 24)).alloc (.cells #[.slice none 0 0] 24)) (.slice a2 D1.length c2) D1) := (HDf.out.below ((Below.refl _ _).alloc (Nat.le_refl _) _)).more (by simp)
  replace H19 : Hid (CellsAt ((w12.alloc (.cells #[.slice none 0 0] 24)).alloc (.cells #[.slice none 0 0] 24)) (wc4.heap.size) 24 #[.slice a2 D1.length c2]) := H19.out.kept (World.grownBy_alloc _ _ none) (by simp)
  replace HTf : Hid (IsFl ((w12.alloc (.cells #[.slice none 0 0] 24)).alloc (.cells #[.slice none 0 0] 24)).heap.size ((w12.alloc (.cells #[.slice none 0 0] 24)).alloc (.cells #[.slice none 0 0] 24)) (.slice a3 T1.length c3) T1) := (HTf.out.below ((Below.refl _ _).alloc (Nat.le_refl _) _)).more (by simp)
  replace H21 : Hid (CellsAt ((w12.alloc (.cells #[.slice none 0 0] 24)).alloc (.cells #[.slice none 0 0] 24)) (wc6.heap.size) 24 #[.slice a3 T1.length c3]) := H21.out.kept (World.grownBy_alloc _ _ none) (by simp)
  replace H29 : Hid (CellsAt ((w12.alloc (.cells #[.slice none 0 0] 24)).alloc (.cells #[.slice none 0 0] 24)) (w12.heap.size) 24 #[.slice none 0 0]) := H29.out.kept (World.grownBy_alloc _ _ none) (by simp)
  have H30 : Hid (CellsAt ((w12.alloc (.cells #[.slice none 0 0] 24)).alloc (.cells #[.slice none 0 0] 24)) (w12.heap.size + 1) 24 #[.slice none 0 0]) := by first | exact CellsAt.new _ _ _ | (have := CellsAt.new (w12.alloc (.cells #[.slice none 0 0] 24)) 24 #[.slice none 0 0]; simp only [World.size_alloc] at this; exact this)
  replace HB0 : Hid (Below w.heap.size w (((w12.alloc (.cells #[.slice none 0 0] 24)).alloc (.cells #[.slice none 0 0] 24)).alloc (.cells #[.slice none 0 0] 24))) := HB0.out.alloc HB0.out.size _
  replace Hf : Hid (CellsAt (((w12.alloc (.cells #[.slice none 0 0] 24)).alloc (.cells #[.slice none 0 0] 24)).alloc (.cells #[.slice none 0 0] 24)) (w.heap.size) 24 #[.slice ad nF cap]) := Hf.out.kept (World.grownBy_alloc _ _ none) (by simp)
  replace Hd : Hid (CellsAt (((w12.alloc (.cells #[.slice none 0 0] 24)).alloc (.cells #[.slice none 0 0] 24)).alloc (.cells #[.slice none 0 0] 24)) (w.heap.size + 1) 32 #[.int .i64 kd, .int .i64 ps, .int .i64 dv]) := Hd.out.kept (World.grownBy_alloc _ _ none) (by simp)
  replace HF0 : Hid (IsFl (((w12.alloc (.cells #[.slice none 0 0] 24)).alloc (.cells #[.slice none 0 0] 24)).alloc (.cells #[.slice none 0 0] 24)).heap.size (((w12.alloc (.cells #[.slice none 0 0] 24)).alloc (.cells #[.slice none 0 0] 24)).alloc (.cells #[.slice none 0 0] 24)) (.slice ad nF cap) F) := (HF0.out.below ((Below.refl _ _).alloc (Nat.le_refl _) _)).more (by simp)
  replace HL0 : Hid (RowOf 3 Deed.cell (((w12.alloc (.cells #[.slice none 0 0] 24)).alloc (.cells #[.slice none 0 0] 24)).alloc (.cells #[.slice none 0 0] 24)).heap.size (((w12.alloc (.cells #[.slice none 0 0] 24)).alloc (.cells #[.slice none 0 0] 24)).alloc (.cells #[.slice none 0 0] 24)) (.slice la l.length lcap) l) := (HL0.out.below ((Below.refl _ _).alloc (Nat.le_refl _) _)).more (by simp)
  replace HA : Hid (IsFl (((w12.alloc (.cells #[.slice none 0 0] 24)).alloc (.cells #[.slice none 0 0] 24)).alloc (.cells #[.slice none 0 0] 24)).heap.size (((w12.alloc (.cells #[.slice none 0 0] 24)).alloc (.cells #[.slice none 0 0] 24)).alloc (.cells #[.slice none 0 0] 24)) (.slice a1 RN.length c1) RN) := (HA.out.below ((Below.refl _ _).alloc (Nat.le_refl _) _)).more (by simp)
  replace H15 : Hid (CellsAt (((w12.alloc (.cells #[.slice none 0 0] 24)).alloc (.cells #[.slice none 0 0] 24)).alloc (.cells #[.slice none 0 0] 24)) (wc1.heap.size) 24 #[.slice a1 RN.length c1]) := H15.out.kept (World.grownBy_alloc _ _ none) (by simp)
  replace HDf : Hid (IsFl (((w12.alloc (.cells #[.slice none 0 0] 24)).alloc (.cells #[.slice none 0 0] 24)).alloc (.cells #[.slice none 0 0] 24)).heap.size (((w12.alloc (.cells #[.slice none 0 0] 24)).alloc (.cells #[.slice none 0 0] 24)).alloc (.cells #[.slice none 0 0] 24)) (.slice a2 D1.length c2) D1) := (HDf.out.below ((Below.refl _ _).alloc (Nat.le_refl _) _)).more (by simp)
  replace H19 : Hid (CellsAt (((w12.alloc (.cells #[.slice none 0 0] 24)).alloc (.cells #[.slice none 0 0] 24)).alloc (.cells #[.slice none 0 0] 24)) (wc4.heap.size) 24 #[.slice a2 D1.length c2]) := H19.out.kept (World.grownBy_alloc _ _ none) (by simp)
  replace HTf : Hid (IsFl (((w12.alloc (.cells #[.slice none 0 0] 24)).alloc (.cells #[.slice none 0 0] 24)).alloc (.cells #[.slice none 0 0] 24)).heap.size (((w12.alloc (.cells #[.slice none 0 0] 24)).alloc (.cells #[.slice none 0 0] 24)).alloc (.cells #[.slice none 0 0] 24)) (.slice a3 T1.length c3) T1) := (HTf.out.below ((Below.refl _ _).alloc (Nat.le_refl _) _)).more (by simp)
  replace H21 : Hid (CellsAt (((w12.alloc (.cells #[.slice none 0 0] 24)).alloc (.cells #[.slice none 0 0] 24)).alloc (.cells #[.slice none 0 0] 24)) (wc6.heap.size) 24 #[.slice a3 T1.length c3]) := H21.out.kept (World.grownBy_alloc _ _ none) (by simp)
  replace H29 : Hid (CellsAt (((w12.alloc (.cells #[.slice none 0 0] 24)).alloc (.cells #[.slice none 0 0] 24)).alloc (.cells #[.slice none 0 0] 24)) (w12.heap.size) 24 #[.slice none 0 0]) := H29.out.kept (World.grownBy_alloc _ _ none) (by simp)
  replace H30 : Hid (CellsAt (((w12.alloc (.cells #[.slice none 0 0] 24)).alloc (.cells #[.slice none 0 0] 24)).alloc (.cells #[.slice none 0 0] 24)) (w12.heap.size + 1) 24 #[.slice none 0 0]) := H30.out.kept (World.grownBy_alloc _ _ none) (by simp)
  have H31 : Hid (CellsAt (((w12.alloc (.cells #[.slice none 0 0] 24)).alloc (.cells #[.slice none 0 0] 24)).alloc (.cells #[.slice none 0 0] 24)) (w12.heap.size + 1 + 1) 24 #[.slice none 0 0]) := by first | exact CellsAt.new _ _ _ | (have := CellsAt.new ((w12.alloc (.cells #[.slice none 0 0] 24)).alloc (.cells #[.slice none 0 0] 24)) 24 #[.slice none 0 0]; simp only [World.size_alloc] at this; exact this)
  generalize (((w12.alloc (.cells #[.slice none 0 0] 24)).alloc (.cells #[.slice none 0 0] 24)).alloc (.cells #[.slice none 0 0] 24)) = w11 at *
  go_upto_region 14 with fail
  go_cut [101] from 102 (fun sq wx => sq = .bool (U == 0) ∧ wx = w11)
  case first =>
    go_wp2_with fail
    go_meet
    exact ⟨rfl, rfl⟩
  case rest =>
  obtain ⟨rfl, rfl⟩ := hcut
  go_upto_if 101 with fail
  go_cut [] from 101 (fun wx => (∃ vq : Value, Hid (CellsAt wx (w12.heap.size) 24 #[vq]) ∧ Hid (IsFl wx.heap.size wx vq RN)) ∧ Hid (Below w.heap.size w wx) ∧ Hid (CellsAt wx (w.heap.size) 24 #[.slice ad nF cap]) ∧ Hid (CellsAt wx (w.heap.size + 1) 32 #[.int .i64 kd, .int .i64 ps, .int .i64 dv]) ∧ Hid (IsFl wx.heap.size wx (.slice ad nF cap) F) ∧ Hid (RowOf 3 Deed.cell wx.heap.size wx (.slice la l.length lcap) l) ∧ Hid (IsFl wx.heap.size wx (.slice a1 RN.length c1) RN) ∧ Hid (CellsAt wx (wc1.heap.size) 24 #[.slice a1 RN.length c1]) ∧ Hid (IsFl wx.heap.size wx (.slice a2 D1.length c2) D1) ∧ Hid (CellsAt wx (wc4.heap.size) 24 #[.slice a2 D1.length c2]) ∧ Hid (IsFl wx.heap.size wx (.slice a3 T1.length c3) T1) ∧ Hid (CellsAt wx (wc6.heap.size) 24 #[.slice a3 T1.length c3]) ∧ Hid (CellsAt wx (w12.heap.size + 1) 24 #[.slice none 0 0]) ∧ Hid (CellsAt wx (w12.heap.size + 1 + 1) 24 #[.slice none 0 0]))
  case first =>
    by_cases hq : U = 0
    · have hqh : Hid (U = 0) := hq
      have hq1 : (U == 0) = true := by rw [hq]; rfl
      clear hq
      rw [hq1]
      have pl_Hf_0 := Hf.out.cell 0
      simp at pl_Hf_0
      have pl_Hf_lt := Hf.out.lt
      go_wp2_with fail
      clear pl_Hf_0 pl_Hf_lt
      refine (HNF.out _ hqh.out).mono ?_
      rintro e wc16 ⟨⟨rq, rfl, hrq⟩, bb16⟩
      replace HB0 : Hid (Below w.heap.size w wc16) := HB0.out.trans (bb16.mono HB0.out.size)
      replace Hf : Hid (CellsAt wc16 (w.heap.size) 24 #[.slice ad nF cap]) := Hf.out.below bb16 Hf.out.lt
      replace Hd : Hid (CellsAt wc16 (w.heap.size + 1) 32 #[.int .i64 kd, .int .i64 ps, .int .i64 dv]) := Hd.out.below bb16 Hd.out.lt
      replace HF0 : Hid (IsFl wc16.heap.size wc16 (.slice ad nF cap) F) := (HF0.out.below bb16).more bb16.size
      replace HL0 : Hid (RowOf 3 Deed.cell wc16.heap.size wc16 (.slice la l.length lcap) l) := (HL0.out.below bb16).more bb16.size
      replace HA : Hid (IsFl wc16.heap.size wc16 (.slice a1 RN.length c1) RN) := (HA.out.below bb16).more bb16.size
      replace H15 : Hid (CellsAt wc16 (wc1.heap.size) 24 #[.slice a1 RN.length c1]) := H15.out.below bb16 H15.out.lt
      replace HDf : Hid (IsFl wc16.heap.size wc16 (.slice a2 D1.length c2) D1) := (HDf.out.below bb16).more bb16.size
      replace H19 : Hid (CellsAt wc16 (wc4.heap.size) 24 #[.slice a2 D1.length c2]) := H19.out.below bb16 H19.out.lt
      replace HTf : Hid (IsFl wc16.heap.size wc16 (.slice a3 T1.length c3) T1) := (HTf.out.below bb16).more bb16.size
      replace H21 : Hid (CellsAt wc16 (wc6.heap.size) 24 #[.slice a3 T1.length c3]) := H21.out.below bb16 H21.out.lt
      replace H29 : Hid (CellsAt wc16 (w12.heap.size) 24 #[.slice none 0 0]) := H29.out.below bb16 H29.out.lt
      replace H30 : Hid (CellsAt wc16 (w12.heap.size + 1) 24 #[.slice none 0 0]) := H30.out.below bb16 H30.out.lt
      replace H31 : Hid (CellsAt wc16 (w12.heap.size + 1 + 1) 24 #[.slice none 0 0]) := H31.out.below bb16 H31.out.lt
      clear bb16
      obtain ⟨⟨aq, cq, rfl, _, _⟩, _⟩ := id hrq
      have HQ : Hid (IsFl wc16.heap.size wc16 (.slice aq RN.length cq) RN) := hrq
      clear hrq
      have pq0 := H29.out.cell 0
      have pq1 := H29.out.frozen 0
      simp at pq0
      go_wp2_with fail
      go_meet
      have gs := grown_set wc16 (w12.heap.size) 0 (.slice aq RN.length cq)
      have zc := H29.out.set 0 (.slice aq RN.length cq)
      simp only [List.setIfInBounds_toArray, List.set_cons_zero] at zc
      have hb9 := HB0.out.setCell (p := ⟨w12.heap.size, 0, none⟩) (by simp; omega) (.slice aq RN.length cq)
      exact ⟨⟨_, zc, (HQ.out.stored H29.out (fun s h => by cases h) _).more (by simp [World.setCell])⟩, hb9, Hf.out.kept gs (by intro e; injection e with e; omega), Hd.out.kept gs (by intro e; injection e with e; omega), (HFO.out.below hb9).more hb9.size, (HLO.out.below hb9).more hb9.size, (HA.out.stored H29.out (fun s h => by cases h) _).more (by simp [World.setCell]), H15.out.kept gs (by intro e; injection e with e; omega), (HDf.out.stored H29.out (fun s h => by cases h) _).more (by simp [World.setCell]), H19.out.kept gs (by intro e; injection e with e; omega), (HTf.out.stored H29.out (fun s h => by cases h) _).more (by simp [World.setCell]), H21.out.kept gs (by intro e; injection e with e; omega), H30.out.kept gs (by intro e; injection e with e; omega), H31.out.kept gs (by intro e; injection e with e; omega)⟩
    · have hqh : Hid (U ≠ 0) := hq
      have hq1 : (U == 0) = false := by simpa using hq
      clear hq
      rw [hq1]
      go_wp2_with fail
      go_meet
      exact ⟨⟨_, H29.out, by rw [KN.out hqh.out]; exact IsFl.nil _ _⟩, HB0.out, Hf.out, Hd.out, HF0.out, HL0.out, HA.out, H15.out, HDf.out, H19.out, HTf.out, H21.out, H30.out, H31.out⟩
  case rest =>
  obtain ⟨⟨vH29, H29, FH29⟩, HB0, Hf, Hd, HF0, HL0, HA, H15, HDf, H19, HTf, H21, H30, H31⟩ := hcut
  obtain ⟨w13, hw13⟩ : ∃ x, x = wc := ⟨_, rfl⟩
  subst hw13
  go_upto_region 16 with fail
  go_cut [105] from 106 (fun sq wx => sq = .bool (RW == 0) ∧ wx = w13)
  case first =>
    go_wp2_with fail
    go_meet
    exact ⟨rfl, rfl⟩
  case rest =>
  obtain ⟨rfl, rfl⟩ := hcut
  go_upto_if 105 with fail
  go_cut [32] from 105 (fun s32 wx => s32 = .string RS ∧ Hid (Below w.heap.size w wx) ∧ Hid (CellsAt wx (w.heap.size) 24 #[.slice ad nF cap]) ∧ Hid (CellsAt wx (w.heap.size + 1) 32 #[.int .i64 kd, .int .i64 ps, .int .i64 dv]) ∧ Hid (IsFl wx.heap.size wx (.slice ad nF cap) F) ∧ Hid (RowOf 3 Deed.cell wx.heap.size wx (.slice la l.length lcap) l) ∧ Hid (IsFl wx.heap.size wx (.slice a1 RN.length c1) RN) ∧ Hid (CellsAt wx (wc1.heap.size) 24 #[.slice a1 RN.length c1]) ∧ Hid (IsFl wx.heap.size wx (.slice a2 D1.length c2) D1) ∧ Hid (CellsAt wx (wc4.heap.size) 24 #[.slice a2 D1.length c2]) ∧ Hid (IsFl wx.heap.size wx (.slice a3 T1.length c3) T1) ∧ Hid (CellsAt wx (wc6.heap.size) 24 #[.slice a3 T1.length c3]) ∧ Hid (CellsAt wx (w12.heap.size + 1) 24 #[.slice none 0 0]) ∧ Hid (CellsAt wx (w12.heap.size + 1 + 1) 24 #[.slice none 0 0]) ∧ Hid (CellsAt wx (w12.heap.size) 24 #[vH29]) ∧ Hid (IsFl wx.heap.size wx (vH29) RN))
  case first =>
    rcases KR.out with ⟨h0, hs, h⟩ | ⟨h0, ⟨h1, hs, h⟩ | ⟨h1, h2, hs, h⟩ | ⟨h1, h2, h3, hs, h⟩ | ⟨h1, h2, h3, h4, hs, h⟩ | ⟨an, mn, rfl, rfl, h3, hs, h⟩⟩
    · have hh : Hid (RS = ⟨#[]⟩) := hs
      have hq1 : (RW == 0) = false := by rw [h]; simpa using h0
      clear h hs h0
      rw [hq1]
      go_wp2_with fail
      go_meet
      exact ⟨by rw [hh.out], HB0.out, Hf.out, Hd.out, HF0.out, HL0.out, HA.out, H15.out, HDf.out, H19.out, HTf.out, H21.out, H30.out, H31.out, H29.out, FH29.out⟩
    · have hh : Hid (RS = ⟨#[]⟩) := hs
      have hq1 : (RW == 0) = false := by rw [h]; rfl
      clear h hs h0 h1
      rw [hq1]
      go_wp2_with fail
      go_meet
      exact ⟨by rw [hh.out], HB0.out, Hf.out, Hd.out, HF0.out, HL0.out, HA.out, H15.out, HDf.out, H19.out, HTf.out, H21.out, H30.out, H31.out, H29.out, FH29.out⟩
    · have hh : Hid (RS = ⟨#[]⟩) := hs
      have hq1 : (RW == 0) = false := by rw [h]; rfl
      clear h hs h0 h1 h2
      rw [hq1]
      go_wp2_with fail
      go_meet
      exact ⟨by rw [hh.out], HB0.out, Hf.out, Hd.out, HF0.out, HL0.out, HA.out, H15.out, HDf.out, H19.out, HTf.out, H21.out, H30.out, H31.out, H29.out, FH29.out⟩
    · have hh : Hid (RS = ⟨#[]⟩) := hs
      have hq1 : (RW == 0) = false := by rw [h]; rfl
      clear h hs h0 h1 h2 h3
      rw [hq1]
      go_wp2_with fail
      go_meet
      exact ⟨by rw [hh.out], HB0.out, Hf.out, Hd.out, HF0.out, HL0.out, HA.out, H15.out, HDf.out, H19.out, HTf.out, H21.out, H30.out, H31.out, H29.out, FH29.out⟩
    · have hh : Hid (RS = ⟨#[]⟩) := hs
      have hq1 : (RW == 0) = false := by rw [h]; rfl
      clear h hs h0 h1 h2 h3 h4
      rw [hq1]
      go_wp2_with fail
      go_meet
      exact ⟨by rw [hh.out], HB0.out, Hf.out, Hd.out, HF0.out, HL0.out, HA.out, H15.out, HDf.out, H19.out, HTf.out, H21.out, H30.out, H31.out, H29.out, FH29.out⟩
    · have hh : Hid (RS = S.extract an (an + mn)) := hs
      have hq1 : (RW == 0) = true := by rw [h]; rfl
      have h0h : Hid (CF = 0) := h0
      obtain ⟨hss, hn32⟩ := KSZ.out h0
      clear h hs h0
      rw [hq1]
      have pl_Hf_0 := Hf.out.cell 0
      simp at pl_Hf_0
      have pl_Hf_lt := Hf.out.lt
      go_wp2_with fail
      clear pl_Hf_0 pl_Hf_lt
      refine (HAO.out _ _ h0h.out HF0.out).mono ?_
      rintro e wc17 ⟨rfl, bb17⟩
      replace HB0 : Hid (Below w.heap.size w wc17) := HB0.out.trans (bb17.mono HB0.out.size)
      replace Hf : Hid (CellsAt wc17 (w.heap.size) 24 #[.slice ad nF cap]) := Hf.out.below bb17 Hf.out.lt
      replace Hd : Hid (CellsAt wc17 (w.heap.size + 1) 32 #[.int .i64 kd, .int .i64 ps, .int .i64 dv]) := Hd.out.below bb17 Hd.out.lt
      replace HF0 : Hid (IsFl wc17.heap.size wc17 (.slice ad nF cap) F) := (HF0.out.below bb17).more bb17.size
      replace HL0 : Hid (RowOf 3 Deed.cell wc17.heap.size wc17 (.slice la l.length lcap) l) := (HL0.out.below bb17).more bb17.size
      replace HA : Hid (IsFl wc17.heap.size wc17 (.slice a1 RN.length c1) RN) := (HA.out.below bb17).more bb17.size
      replace H15 : Hid (CellsAt wc17 (wc1.heap.size) 24 #[.slice a1 RN.length c1]) := H15.out.below bb17 H15.out.lt
      replace HDf : Hid (IsFl wc17.heap.size wc17 (.slice a2 D1.length c2) D1) := (HDf.out.below bb17).more bb17.size
      replace H19 : Hid (CellsAt wc17 (wc4.heap.size) 24 #[.slice a2 D1.length c2]) := H19.out.below bb17 H19.out.lt
      replace HTf : Hid (IsFl wc17.heap.size wc17 (.slice a3 T1.length c3) T1) := (HTf.out.below bb17).more bb17.size
      replace H21 : Hid (CellsAt wc17 (wc6.heap.size) 24 #[.slice a3 T1.length c3]) := H21.out.below bb17 H21.out.lt
      replace H30 : Hid (CellsAt wc17 (w12.heap.size + 1) 24 #[.slice none 0 0]) := H30.out.below bb17 H30.out.lt
      replace H31 : Hid (CellsAt wc17 (w12.heap.size + 1 + 1) 24 #[.slice none 0 0]) := H31.out.below bb17 H31.out.lt
      replace H29 : Hid (CellsAt wc17 (w12.heap.size) 24 #[vH29]) := H29.out.below bb17 H29.out.lt
      replace FH29 : Hid (IsFl wc17.heap.size wc17 (vH29) RN) := (FH29.out.below bb17).more bb17.size
      clear bb17
      have e3 : (an : Int) + (mn : Int) = ((an + mn : Nat) : Int) := by omega
      have hqb : an + mn ≤ S.size := by omega
      have hab : an ≤ an + mn := by omega
      have ewq : wrap64 ((an + mn : Nat) : Int) = ((an + mn : Nat) : Int) := by unfold wrap64; omega
      clear hss h3
      generalize an + mn = q at *
      have HH : Hid (RS = S.extract an q) := hh
      clear hh
      go_wp2_with fail
      go_meet
      exact ⟨by rw [HH.out], HB0.out, Hf.out, Hd.out, HF0.out, HL0.out, HA.out, H15.out, HDf.out, H19.out, HTf.out, H21.out, H30.out, H31.out, H29.out, FH29.out⟩
  case rest =>
  obtain ⟨rfl, HB0, Hf, Hd, HF0, HL0, HA, H15, HDf, H19, HTf, H21, H30, H31, H29, FH29⟩ := hcut
  obtain ⟨w14, hw14⟩ : ∃ x, x = wc := ⟨_, rfl⟩
  subst hw14
  go_upto_region 18 with fail
  go_cut [114] from 115 (fun sq wx => sq = .bool (E1 == 0) ∧ wx = w14)
  case first =>
    go_wp2_with fail
    go_meet
    exact ⟨rfl, rfl⟩
  case rest =>
  obtain ⟨rfl, rfl⟩ := hcut
  go_upto_if 114 with fail
  go_cut [] from 114 (fun wx => (∃ vq : Value, Hid (CellsAt wx (w12.heap.size + 1) 24 #[vq]) ∧ Hid (IsFl wx.heap.size wx vq D1)) ∧ Hid (Below w.heap.size w wx) ∧ Hid (CellsAt wx (w.heap.size) 24 #[.slice ad nF cap]) ∧ Hid (CellsAt wx (w.heap.size + 1) 32 #[.int .i64 kd, .int .i64 ps, .int .i64 dv]) ∧ Hid (IsFl wx.heap.size wx (.slice ad nF cap) F) ∧ Hid (RowOf 3 Deed.cell wx.heap.size wx (.slice la l.length lcap) l) ∧ Hid (IsFl wx.heap.size wx (.slice a1 RN.length c1) RN) ∧ Hid (CellsAt wx (wc1.heap.size) 24 #[.slice a1 RN.length c1]) ∧ Hid (IsFl wx.heap.size wx (.slice a2 D1.length c2) D1) ∧ Hid (CellsAt wx (wc4.heap.size) 24 #[.slice a2 D1.length c2]) ∧ Hid (IsFl wx.heap.size wx (.slice a3 T1.length c3) T1) ∧ Hid (CellsAt wx (wc6.heap.size) 24 #[.slice a3 T1.length c3]) ∧ Hid (CellsAt wx (w12.heap.size + 1 + 1) 24 #[.slice none 0 0]) ∧ Hid (CellsAt wx (w12.heap.size) 24 #[vH29]) ∧ Hid (IsFl wx.heap.size wx (vH29) RN))
  case first =>
    by_cases hq : E1 = 0
    · have hqh : Hid (E1 = 0) := hq
      have hq1 : (E1 == 0) = true := by rw [hq]; rfl
      clear hq
      rw [hq1]
      have pl_Hf_0 := Hf.out.cell 0
      simp at pl_Hf_0
      have pl_Hf_lt := Hf.out.lt
      go_wp2_with fail
      clear pl_Hf_0 pl_Hf_lt
      refine (HDN.out _ _ _ hqh.out HF0.out HL0.out).mono ?_
      rintro e wc18 ⟨⟨rq, rfl, hrq⟩, bb18⟩
      replace HB0 : Hid (Below w.heap.size w wc18) := HB0.out.trans (bb18.mono HB0.out.size)
      replace Hf : Hid (CellsAt wc18 (w.heap.size) 24 #[.slice ad nF cap]) := Hf.out.below bb18 Hf.out.lt
      replace Hd : Hid (CellsAt wc18 (w.heap.size + 1) 32 #[.int .i64 kd, .int .i64 ps, .int .i64 dv]) := Hd.out.below bb18 Hd.out.lt
      replace HF0 : Hid (IsFl wc18.heap.size wc18 (.slice ad nF cap) F) := (HF0.out.below bb18).more bb18.size
      replace HL0 : Hid (RowOf 3 Deed.cell wc18.heap.size wc18 (.slice la l.length lcap) l) := (HL0.out.below bb18).more bb18.size
      replace HA : Hid (IsFl wc18.heap.size wc18 (.slice a1 RN.length c1) RN) := (HA.out.below bb18).more bb18.size
      replace H15 : Hid (CellsAt wc18 (wc1.heap.size) 24 #[.slice a1 RN.length c1]) := H15.out.below bb18 H15.out.lt
      replace HDf : Hid (IsFl wc18.heap.size wc18 (.slice a2 D1.length c2) D1) := (HDf.out.below bb18).more bb18.size
      replace H19 : Hid (CellsAt wc18 (wc4.heap.size) 24 #[.slice a2 D1.length c2]) := H19.out.below bb18 H19.out.lt
      replace HTf : Hid (IsFl wc18.heap.size wc18 (.slice a3 T1.length c3) T1) := (HTf.out.below bb18).more bb18.size
      replace H21 : Hid (CellsAt wc18 (wc6.heap.size) 24 #[.slice a3 T1.length c3]) := H21.out.below bb18 H21.out.lt
      replace H30 : Hid (CellsAt wc18 (w12.heap.size + 1) 24 #[.slice none 0 0]) := H30.out.below bb18 H30.out.lt
      replace H31 : Hid (CellsAt wc18 (w12.heap.size + 1 + 1) 24 #[.slice none 0 0]) := H31.out.below bb18 H31.out.lt
      replace H29 : Hid (CellsAt wc18 (w12.heap.size) 24 #[vH29]) := H29.out.below bb18 H29.out.lt
      replace FH29 : Hid (IsFl wc18.heap.size wc18 (vH29) RN) := (FH29.out.below bb18).more bb18.size
      clear bb18
      obtain ⟨⟨aq, cq, rfl, _, _⟩, _⟩ := id hrq
      have HQ : Hid (IsFl wc18.heap.size wc18 (.slice aq D1.length cq) D1) := hrq
      clear hrq
      have pq0 := H30.out.cell 0
      have pq1 := H30.out.frozen 0
      simp at pq0
      go_wp2_with fail
      go_meet
      have gs := grown_set wc18 (w12.heap.size + 1) 0 (.slice aq D1.length cq)
      have zc := H30.out.set 0 (.slice aq D1.length cq)
      simp only [List.setIfInBounds_toArray, List.set_cons_zero] at zc
      have hb9 := HB0.out.setCell (p := ⟨w12.heap.size + 1, 0, none⟩) (by simp; omega) (.slice aq D1.length cq)
      exact ⟨⟨_, zc, (HQ.out.stored H30.out (fun s h => by cases h) _).more (by simp [World.setCell])⟩, hb9, Hf.out.kept gs (by intro e; injection e with e; omega), Hd.out.kept gs (by intro e; injection e with e; omega), (HFO.out.below hb9).more hb9.size, (HLO.out.below hb9).more hb9.size, (HA.out.stored H30.out (fun s h => by cases h) _).more (by simp [World.setCell]), H15.out.kept gs (by intro e; injection e with e; omega), (HDf.out.stored H30.out (fun s h => by cases h) _).more (by simp [World.setCell]), H19.out.kept gs (by intro e; injection e with e; omega), (HTf.out.stored H30.out (fun s h => by cases h) _).more (by simp [World.setCell]), H21.out.kept gs (by intro e; injection e with e; omega), H31.out.kept gs (by intro e; injection e with e; omega), H29.out.kept gs (by intro e; injection e with e; omega), (FH29.out.stored H30.out (fun s h => by cases h) _).more (by simp [World.setCell])⟩
    · have hqh : Hid (E1 ≠ 0) := hq
      have hq1 : (E1 == 0) = false := by simpa using hq
      clear hq
      rw [hq1]
      go_wp2_with fail
      go_meet
      exact ⟨⟨_, H30.out, by rw [KD.out hqh.out]; exact IsFl.nil _ _⟩, HB0.out, Hf.out, Hd.out, HF0.out, HL0.out, HA.out, H15.out, HDf.out, H19.out, HTf.out, H21.out, H31.out, H29.out, FH29.out⟩
  case rest =>
  obtain ⟨⟨vH30, H30, FH30⟩, HB0, Hf, Hd, HF0, HL0, HA, H15, HDf, H19, HTf, H21, H31, H29, FH29⟩ := hcut
  obtain ⟨w15, hw15⟩ : ∃ x, x = wc := ⟨_, rfl⟩
  subst hw15
  go_upto_region 20 with fail
  go_cut [119] from 120 (fun sq wx => sq = .bool (E2 == 0) ∧ wx = w15)
  case first =>
    go_wp2_with fail
    go_meet
    exact ⟨rfl, rfl⟩
  case rest =>
  obtain ⟨rfl, rfl⟩ := hcut
  go_upto_if 119 with fail
  go_cut [] from 119 (fun wx => (∃ vq : Value, Hid (CellsAt wx (w12.heap.size + 1 + 1) 24 #[vq]) ∧ Hid (IsFl wx.heap.size wx vq T1)) ∧ Hid (Below w.heap.size w wx) ∧ Hid (CellsAt wx (w.heap.size) 24 #[.slice ad nF cap]) ∧ Hid (CellsAt wx (w.heap.size + 1) 32 #[.int .i64 kd, .int .i64 ps, .int .i64 dv]) ∧ Hid (IsFl wx.heap.size wx (.slice ad nF cap) F) ∧ Hid (RowOf 3 Deed.cell wx.heap.size wx (.slice la l.length lcap) l) ∧ Hid (IsFl wx.heap.size wx (.slice a1 RN.length c1) RN) ∧ Hid (CellsAt wx (wc1.heap.size) 24 #[.slice a1 RN.length c1]) ∧ Hid (IsFl wx.heap.size wx (.slice a2 D1.length c2) D1) ∧ Hid (CellsAt wx (wc4.heap.size) 24 #[.slice a2 D1.length c2]) ∧ Hid (IsFl wx.heap.size wx (.slice a3 T1.length c3) T1) ∧ Hid (CellsAt wx (wc6.heap.size) 24 #[.slice a3 T1.length c3]) ∧ Hid (CellsAt wx (w12.heap.size) 24 #[vH29]) ∧ Hid (IsFl wx.heap.size wx (vH29) RN) ∧ Hid (CellsAt wx (w12.heap.size + 1) 24 #[vH30]) ∧ Hid (IsFl wx.heap.size wx (vH30) D1))
  case first =>
    by_cases hq : E2 = 0
    · have hqh : Hid (E2 = 0) := hq
      have hq1 : (E2 == 0) = true := by rw [hq]; rfl
      clear hq
      rw [hq1]
      have pl_Hf_0 := Hf.out.cell 0
      simp at pl_Hf_0
      have pl_Hf_lt := Hf.out.lt
      have pl_Hd_0 := Hd.out.cell 0
      have pl_Hd_1 := Hd.out.cell 1
      have pl_Hd_2 := Hd.out.cell 2
      simp at pl_Hd_0 pl_Hd_1 pl_Hd_2
      have pl_Hd_lt := Hd.out.lt
      go_wp2_with fail
      clear pl_Hf_0 pl_Hf_lt pl_Hd_0 pl_Hd_1 pl_Hd_2 pl_Hd_lt
      refine (HTN.out _ _ hqh.out HF0.out).mono ?_
      rintro e wc19 ⟨⟨rq, rfl, hrq⟩, bb19⟩
      replace HB0 : Hid (Below w.heap.size w wc19) := HB0.out.trans (bb19.mono HB0.out.size)
      replace Hf : Hid (CellsAt wc19 (w.heap.size) 24 #[.slice ad nF cap]) := Hf.out.below bb19 Hf.out.lt
      replace Hd : Hid (CellsAt wc19 (w.heap.size + 1) 32 #[.int .i64 kd, .int .i64 ps, .int .i64 dv]) := Hd.out.below bb19 Hd.out.lt
      replace HF0 : Hid (IsFl wc19.heap.size wc19 (.slice ad nF cap) F) := (HF0.out.below bb19).more bb19.size
      replace HL0 : Hid (RowOf 3 Deed.cell wc19.heap.size wc19 (.slice la l.length lcap) l) := (HL0.out.below bb19).more bb19.size
      replace HA : Hid (IsFl wc19.heap.size wc19 (.slice a1 RN.length c1) RN) := (HA.out.below bb19).more bb19.size
      replace H15 : Hid (CellsAt wc19 (wc1.heap.size) 24 #[.slice a1 RN.length c1]) := H15.out.below bb19 H15.out.lt
      replace HDf : Hid (IsFl wc19.heap.size wc19 (.slice a2 D1.length c2) D1) := (HDf.out.below bb19).more bb19.size
      replace H19 : Hid (CellsAt wc19 (wc4.heap.size) 24 #[.slice a2 D1.length c2]) := H19.out.below bb19 H19.out.lt
      replace HTf : Hid (IsFl wc19.heap.size wc19 (.slice a3 T1.length c3) T1) := (HTf.out.below bb19).more bb19.size
      replace H21 : Hid (CellsAt wc19 (wc6.heap.size) 24 #[.slice a3 T1.length c3]) := H21.out.below bb19 H21.out.lt
      replace H31 : Hid (CellsAt wc19 (w12.heap.size + 1 + 1) 24 #[.slice none 0 0]) := H31.out.below bb19 H31.out.lt
      replace H29 : Hid (CellsAt wc19 (w12.heap.size) 24 #[vH29]) := H29.out.below bb19 H29.out.lt
      replace FH29 : Hid (IsFl wc19.heap.size wc19 (vH29) RN) := (FH29.out.below bb19).more bb19.size
      replace H30 : Hid (CellsAt wc19 (w12.heap.size + 1) 24 #[vH30]) := H30.out.below bb19 H30.out.lt
      replace FH30 : Hid (IsFl wc19.heap.size wc19 (vH30) D1) := (FH30.out.below bb19).more bb19.size
      clear bb19
      obtain ⟨⟨aq, cq, rfl, _, _⟩, _⟩ := id hrq
      have HQ : Hid (IsFl wc19.heap.size wc19 (.slice aq T1.length cq) T1) := hrq
      clear hrq
      have pq0 := H31.out.cell 0
      have pq1 := H31.out.frozen 0
      simp at pq0
      go_wp2_with fail
      go_meet
      have gs := grown_set wc19 (w12.heap.size + 1 + 1) 0 (.slice aq T1.length cq)
      have zc := H31.out.set 0 (.slice aq T1.length cq)
      simp only [List.setIfInBounds_toArray, List.set_cons_zero] at zc
      have hb9 := HB0.out.setCell (p := ⟨w12.heap.size + 1 + 1, 0, none⟩) (by simp; omega) (.slice aq T1.length cq)
      exact ⟨⟨_, zc, (HQ.out.stored H31.out (fun s h => by cases h) _).more (by simp [World.setCell])⟩, hb9, Hf.out.kept gs (by intro e; injection e with e; omega), Hd.out.kept gs (by intro e; injection e with e; omega), (HFO.out.below hb9).more hb9.size, (HLO.out.below hb9).more hb9.size, (HA.out.stored H31.out (fun s h => by cases h) _).more (by simp [World.setCell]), H15.out.kept gs (by intro e; injection e with e; omega), (HDf.out.stored H31.out (fun s h => by cases h) _).more (by simp [World.setCell]), H19.out.kept gs (by intro e; injection e with e; omega), (HTf.out.stored H31.out (fun s h => by cases h) _).more (by simp [World.setCell]), H21.out.kept gs (by intro e; injection e with e; omega), H29.out.kept gs (by intro e; injection e with e; omega), (FH29.out.stored H31.out (fun s h => by cases h) _).more (by simp [World.setCell]), H30.out.kept gs (by intro e; injection e with e; omega), (FH30.out.stored H31.out (fun s h => by cases h) _).more (by simp [World.setCell])⟩
    · have hqh : Hid (E2 ≠ 0) := hq
      have hq1 : (E2 == 0) = false := by simpa using hq
      clear hq
      rw [hq1]
      go_wp2_with fail
      go_meet
      exact ⟨⟨_, H31.out, by rw [KT.out hqh.out]; exact IsFl.nil _ _⟩, HB0.out, Hf.out, Hd.out, HF0.out, HL0.out, HA.out, H15.out, HDf.out, H19.out, HTf.out, H21.out, H29.out, FH29.out, H30.out, FH30.out⟩
  case rest =>
  obtain ⟨⟨vH31, H31, FH31⟩, HB0, Hf, Hd, HF0, HL0, HA, H15, HDf, H19, HTf, H21, H29, FH29, H30, FH30⟩ := hcut
  obtain ⟨w16, hw16⟩ : ∃ x, x = wc := ⟨_, rfl⟩
  subst hw16
  go_wp2_with fail
  refine (HBG.out _).mono ?_
  rintro e wc20 ⟨rfl, bb20⟩
  replace HB0 : Hid (Below w.heap.size w wc20) := HB0.out.trans (bb20.mono HB0.out.size)
  replace Hf : Hid (CellsAt wc20 (w.heap.size) 24 #[.slice ad nF cap]) := Hf.out.below bb20 Hf.out.lt
  replace Hd : Hid (CellsAt wc20 (w.heap.size + 1) 32 #[.int .i64 kd, .int .i64 ps, .int .i64 dv]) := Hd.out.below bb20 Hd.out.lt
  replace HF0 : Hid (IsFl wc20.heap.size wc20 (.slice ad nF cap) F) := (HF0.out.below bb20).more bb20.size
  replace HL0 : Hid (RowOf 3 Deed.cell wc20.heap.size wc20 (.slice la l.length lcap) l) := (HL0.out.below bb20).more bb20.size
  replace HA : Hid (IsFl wc20.heap.size wc20 (.slice a1 RN.length c1) RN) := (HA.out.below bb20).more bb20.size
  replace H15 : Hid (CellsAt wc20 (wc1.heap.size) 24 #[.slice a1 RN.length c1]) := H15.out.below bb20 H15.out.lt
  replace HDf : Hid (IsFl wc20.heap.size wc20 (.slice a2 D1.length c2) D1) := (HDf.out.below bb20).more bb20.size
  replace H19 : Hid (CellsAt wc20 (wc4.heap.size) 24 #[.slice a2 D1.length c2]) := H19.out.below bb20 H19.out.lt
  replace HTf : Hid (IsFl wc20.heap.size wc20 (.slice a3 T1.length c3) T1) := (HTf.out.below bb20).more bb20.size
  replace H21 : Hid (CellsAt wc20 (wc6.heap.size) 24 #[.slice a3 T1.length c3]) := H21.out.below bb20 H21.out.lt
  replace H29 : Hid (CellsAt wc20 (w12.heap.size) 24 #[vH29]) := H29.out.below bb20 H29.out.lt
  replace FH29 : Hid (IsFl wc20.heap.size wc20 (vH29) RN) := (FH29.out.below bb20).more bb20.size
  replace H30 : Hid (CellsAt wc20 (w12.heap.size + 1) 24 #[vH30]) := H30.out.below bb20 H30.out.lt
  replace FH30 : Hid (IsFl wc20.heap.size wc20 (vH30) D1) := (FH30.out.below bb20).more bb20.size
  replace H31 : Hid (CellsAt wc20 (w12.heap.size + 1 + 1) 24 #[vH31]) := H31.out.below bb20 H31.out.lt
  replace FH31 : Hid (IsFl wc20.heap.size wc20 (vH31) T1) := (FH31.out.below bb20).more bb20.size
  clear bb20
  have pl_Hf_0 := Hf.out.cell 0
  simp at pl_Hf_0
  have pl_Hf_lt := Hf.out.lt
  go_wp2_with fail
  clear pl_Hf_0 pl_Hf_lt
  refine (HCK.out _ _ HF0.out).mono ?_
  rintro e wc21 ⟨rfl, bb21⟩
  replace HB0 : Hid (Below w.heap.size w wc21) := HB0.out.trans (bb21.mono HB0.out.size)
  replace Hf : Hid (CellsAt wc21 (w.heap.size) 24 #[.slice ad nF cap]) := Hf.out.below bb21 Hf.out.lt
  replace Hd : Hid (CellsAt wc21 (w.heap.size + 1) 32 #[.int .i64 kd, .int .i64 ps, .int .i64 dv]) := Hd.out.below bb21 Hd.out.lt
  replace HF0 : Hid (IsFl wc21.heap.size wc21 (.slice ad nF cap) F) := (HF0.out.below bb21).more bb21.size
  replace HL0 : Hid (RowOf 3 Deed.cell wc21.heap.size wc21 (.slice la l.length lcap) l) := (HL0.out.below bb21).more bb21.size
  replace HA : Hid (IsFl wc21.heap.size wc21 (.slice a1 RN.length c1) RN) := (HA.out.below bb21).more bb21.size
  replace H15 : Hid (CellsAt wc21 (wc1.heap.size) 24 #[.slice a1 RN.length c1]) := H15.out.below bb21 H15.out.lt
  replace HDf : Hid (IsFl wc21.heap.size wc21 (.slice a2 D1.length c2) D1) := (HDf.out.below bb21).more bb21.size
  replace H19 : Hid (CellsAt wc21 (wc4.heap.size) 24 #[.slice a2 D1.length c2]) := H19.out.below bb21 H19.out.lt
  replace HTf : Hid (IsFl wc21.heap.size wc21 (.slice a3 T1.length c3) T1) := (HTf.out.below bb21).more bb21.size
  replace H21 : Hid (CellsAt wc21 (wc6.heap.size) 24 #[.slice a3 T1.length c3]) := H21.out.below bb21 H21.out.lt
  replace H29 : Hid (CellsAt wc21 (w12.heap.size) 24 #[vH29]) := H29.out.below bb21 H29.out.lt
  replace FH29 : Hid (IsFl wc21.heap.size wc21 (vH29) RN) := (FH29.out.below bb21).more bb21.size
  replace H30 : Hid (CellsAt wc21 (w12.heap.size + 1) 24 #[vH30]) := H30.out.below bb21 H30.out.lt
  replace FH30 : Hid (IsFl wc21.heap.size wc21 (vH30) D1) := (FH30.out.below bb21).more bb21.size
  replace H31 : Hid (CellsAt wc21 (w12.heap.size + 1 + 1) 24 #[vH31]) := H31.out.below bb21 H31.out.lt
  replace FH31 : Hid (IsFl wc21.heap.size wc21 (vH31) T1) := (FH31.out.below bb21).more bb21.size
  clear bb21
  have qe1 : (CF == CF) = true := by simp
  have qe2 : (RW == RW) = true := by simp
  have pl_H15_0 := H15.out.cell 0
  simp at pl_H15_0
  have pl_H15_lt := H15.out.lt
  have pl_H29_0 := H29.out.cell 0
  simp at pl_H29_0
  have pl_H29_lt := H29.out.lt
  go_wp2_with fail
  clear pl_H15_0 pl_H15_lt pl_H29_0 pl_H29_lt
  refine (HF1.out _ _ _ RN RN U HA.out FH29.out (fun _ => rfl) KN.out).mono ?_
  rintro e wc22 ⟨rfl, bb22⟩
  replace HB0 : Hid (Below w.heap.size w wc22) := HB0.out.trans (bb22.mono HB0.out.size)
  replace Hf : Hid (CellsAt wc22 (w.heap.size) 24 #[.slice ad nF cap]) := Hf.out.below bb22 Hf.out.lt
  replace Hd : Hid (CellsAt wc22 (w.heap.size + 1) 32 #[.int .i64 kd, .int .i64 ps, .int .i64 dv]) := Hd.out.below bb22 Hd.out.lt
  replace HF0 : Hid (IsFl wc22.heap.size wc22 (.slice ad nF cap) F) := (HF0.out.below bb22).more bb22.size
  replace HL0 : Hid (RowOf 3 Deed.cell wc22.heap.size wc22 (.slice la l.length lcap) l) := (HL0.out.below bb22).more bb22.size
  replace HA : Hid (IsFl wc22.heap.size wc22 (.slice a1 RN.length c1) RN) := (HA.out.below bb22).more bb22.size
  replace H15 : Hid (CellsAt wc22 (wc1.heap.size) 24 #[.slice a1 RN.length c1]) := H15.out.below bb22 H15.out.lt
  replace HDf : Hid (IsFl wc22.heap.size wc22 (.slice a2 D1.length c2) D1) := (HDf.out.below bb22).more bb22.size
  replace H19 : Hid (CellsAt wc22 (wc4.heap.size) 24 #[.slice a2 D1.length c2]) := H19.out.below bb22 H19.out.lt
  replace HTf : Hid (IsFl wc22.heap.size wc22 (.slice a3 T1.length c3) T1) := (HTf.out.below bb22).more bb22.size
  replace H21 : Hid (CellsAt wc22 (wc6.heap.size) 24 #[.slice a3 T1.length c3]) := H21.out.below bb22 H21.out.lt
  replace H29 : Hid (CellsAt wc22 (w12.heap.size) 24 #[vH29]) := H29.out.below bb22 H29.out.lt
  replace FH29 : Hid (IsFl wc22.heap.size wc22 (vH29) RN) := (FH29.out.below bb22).more bb22.size
  replace H30 : Hid (CellsAt wc22 (w12.heap.size + 1) 24 #[vH30]) := H30.out.below bb22 H30.out.lt
  replace FH30 : Hid (IsFl wc22.heap.size wc22 (vH30) D1) := (FH30.out.below bb22).more bb22.size
  replace H31 : Hid (CellsAt wc22 (w12.heap.size + 1 + 1) 24 #[vH31]) := H31.out.below bb22 H31.out.lt
  replace FH31 : Hid (IsFl wc22.heap.size wc22 (vH31) T1) := (FH31.out.below bb22).more bb22.size
  clear bb22
  have pl_H19_0 := H19.out.cell 0
  simp at pl_H19_0
  have pl_H19_lt := H19.out.lt
  have pl_H30_0 := H30.out.cell 0
  simp at pl_H30_0
  have pl_H30_lt := H30.out.lt
  go_wp2_with fail
  clear pl_H19_0 pl_H19_lt pl_H30_0 pl_H30_lt
  refine (HF1.out _ _ _ D1 D1 E1 HDf.out FH30.out (fun _ => rfl) KD.out).mono ?_
  rintro e wc23 ⟨rfl, bb23⟩
  replace HB0 : Hid (Below w.heap.size w wc23) := HB0.out.trans (bb23.mono HB0.out.size)
  replace Hf : Hid (CellsAt wc23 (w.heap.size) 24 #[.slice ad nF cap]) := Hf.out.below bb23 Hf.out.lt
  replace Hd : Hid (CellsAt wc23 (w.heap.size + 1) 32 #[.int .i64 kd, .int .i64 ps, .int .i64 dv]) := Hd.out.below bb23 Hd.out.lt
  replace HF0 : Hid (IsFl wc23.heap.size wc23 (.slice ad nF cap) F) := (HF0.out.below bb23).more bb23.size
  replace HL0 : Hid (RowOf 3 Deed.cell wc23.heap.size wc23 (.slice la l.length lcap) l) := (HL0.out.below bb23).more bb23.size
  replace HA : Hid (IsFl wc23.heap.size wc23 (.slice a1 RN.length c1) RN) := (HA.out.below bb23).more bb23.size
  replace H15 : Hid (CellsAt wc23 (wc1.heap.size) 24 #[.slice a1 RN.length c1]) := H15.out.below bb23 H15.out.lt
  replace HDf : Hid (IsFl wc23.heap.size wc23 (.slice a2 D1.length c2) D1) := (HDf.out.below bb23).more bb23.size
  replace H19 : Hid (CellsAt wc23 (wc4.heap.size) 24 #[.slice a2 D1.length c2]) := H19.out.below bb23 H19.out.lt
  replace HTf : Hid (IsFl wc23.heap.size wc23 (.slice a3 T1.length c3) T1) := (HTf.out.below bb23).more bb23.size
  replace H21 : Hid (CellsAt wc23 (wc6.heap.size) 24 #[.slice a3 T1.length c3]) := H21.out.below bb23 H21.out.lt
  replace H29 : Hid (CellsAt wc23 (w12.heap.size) 24 #[vH29]) := H29.out.below bb23 H29.out.lt
  replace FH29 : Hid (IsFl wc23.heap.size wc23 (vH29) RN) := (FH29.out.below bb23).more bb23.size
  replace H30 : Hid (CellsAt wc23 (w12.heap.size + 1) 24 #[vH30]) := H30.out.below bb23 H30.out.lt
  replace FH30 : Hid (IsFl wc23.heap.size wc23 (vH30) D1) := (FH30.out.below bb23).more bb23.size
  replace H31 : Hid (CellsAt wc23 (w12.heap.size + 1 + 1) 24 #[vH31]) := H31.out.below bb23 H31.out.lt
  replace FH31 : Hid (IsFl wc23.heap.size wc23 (vH31) T1) := (FH31.out.below bb23).more bb23.size
  clear bb23
  have pl_H21_0 := H21.out.cell 0
  simp at pl_H21_0
  have pl_H21_lt := H21.out.lt
  have pl_H31_0 := H31.out.cell 0
  simp at pl_H31_0
  have pl_H31_lt := H31.out.lt
  go_wp2_with fail
  clear pl_H21_0 pl_H21_lt pl_H31_0 pl_H31_lt
  refine (HF1.out _ _ _ T1 T1 E2 HTf.out FH31.out (fun _ => rfl) KT.out).mono ?_
  rintro e wc24 ⟨rfl, bb24⟩
  replace HB0 : Hid (Below w.heap.size w wc24) := HB0.out.trans (bb24.mono HB0.out.size)
  replace Hf : Hid (CellsAt wc24 (w.heap.size) 24 #[.slice ad nF cap]) := Hf.out.below bb24 Hf.out.lt
  replace Hd : Hid (CellsAt wc24 (w.heap.size + 1) 32 #[.int .i64 kd, .int .i64 ps, .int .i64 dv]) := Hd.out.below bb24 Hd.out.lt
  replace HF0 : Hid (IsFl wc24.heap.size wc24 (.slice ad nF cap) F) := (HF0.out.below bb24).more bb24.size
  replace HL0 : Hid (RowOf 3 Deed.cell wc24.heap.size wc24 (.slice la l.length lcap) l) := (HL0.out.below bb24).more bb24.size
  replace HA : Hid (IsFl wc24.heap.size wc24 (.slice a1 RN.length c1) RN) := (HA.out.below bb24).more bb24.size
  replace H15 : Hid (CellsAt wc24 (wc1.heap.size) 24 #[.slice a1 RN.length c1]) := H15.out.below bb24 H15.out.lt
  replace HDf : Hid (IsFl wc24.heap.size wc24 (.slice a2 D1.length c2) D1) := (HDf.out.below bb24).more bb24.size
  replace H19 : Hid (CellsAt wc24 (wc4.heap.size) 24 #[.slice a2 D1.length c2]) := H19.out.below bb24 H19.out.lt
  replace HTf : Hid (IsFl wc24.heap.size wc24 (.slice a3 T1.length c3) T1) := (HTf.out.below bb24).more bb24.size
  replace H21 : Hid (CellsAt wc24 (wc6.heap.size) 24 #[.slice a3 T1.length c3]) := H21.out.below bb24 H21.out.lt
  replace H29 : Hid (CellsAt wc24 (w12.heap.size) 24 #[vH29]) := H29.out.below bb24 H29.out.lt
  replace FH29 : Hid (IsFl wc24.heap.size wc24 (vH29) RN) := (FH29.out.below bb24).more bb24.size
  replace H30 : Hid (CellsAt wc24 (w12.heap.size + 1) 24 #[vH30]) := H30.out.below bb24 H30.out.lt
  replace FH30 : Hid (IsFl wc24.heap.size wc24 (vH30) D1) := (FH30.out.below bb24).more bb24.size
  replace H31 : Hid (CellsAt wc24 (w12.heap.size + 1 + 1) 24 #[vH31]) := H31.out.below bb24 H31.out.lt
  replace FH31 : Hid (IsFl wc24.heap.size wc24 (vH31) T1) := (FH31.out.below bb24).more bb24.size
  clear bb24
  have HBZ := HB0
  clear Hf Hd HF0 HL0 HA H15 HDf H19 HTf H21 H29 FH29 H30 FH30 H31 FH31
  go_wp2
  go_ret
  exact ⟨rfl, HBZ.out⟩

end Go.Proofs.Ytnomapbiklfciaf.flashTells
