/- What must be in any case, of flashes. -/
import Derived.Test.YtnomapbiklfciafFlY
namespace Go.Proofs.Ytnomapbiklfciaf
open Go.RowKit Go.PlainAid

set_option maxRecDepth 100000

/-- What Do and Torn answer. -/
def doRes (F : List ByteArray) (l : List Deed) : List ByteArray := if chkDeeds F l = 0 then doneAll F l else []
def tornRes (F : List ByteArray) (d : Deed) (p : ByteArray) : List ByteArray := if chkDeeds F [d] = 0 then tornB F d p else []

theorem do_doc (F : List ByteArray) (v : Value) (l : List Deed) (vl : Value) (w : World) (hF : IsFl w.heap.size w v F) (hl : RowOf 3 Deed.cell w.heap.size w vl l) :
    Calls Try.prog 8 #[.agg #[v], vl] w fun e w' => (∃ r, e = .returned (.tuple #[.agg #[r], .int .i64 (chkDeeds F l)]) ∧ IsFl w'.heap.size w' r (doRes F l)) ∧ Below w.heap.size w w' := by
  have := flDo_any F v l vl w hF hl
  rw [(chg_done F l).1, (chg_done F l).2] at this
  exact this
theorem torn_doc (F : List ByteArray) (v : Value) (d : Deed) (p : ByteArray) (w : World) (hF : IsFl w.heap.size w v F) (hp : p.size ≤ 9223372036854775807) :
    Calls Try.prog 12 #[.agg #[v], d.value, .string p] w fun e w' => (∃ r, e = .returned (.tuple #[.agg #[r], .int .i64 (chkDeeds F [d])]) ∧ IsFl w'.heap.size w' r (tornRes F d p)) ∧ Below w.heap.size w w' := by
  have := flTorn_any F v d p w hF hp
  rw [(chg_torn F d p).1, (chg_torn F d p).2] at this
  exact this

def bgD : List Deed := [⟨1, 129, 15⟩, ⟨1, 129, 60⟩]
def bgE : Deed := ⟨2, 1, 0⟩
def bgP : ByteArray := ⟨#[255, 1]⟩
def bgF : List ByteArray := newRes 2
def bgG : List ByteArray := doRes bgF bgD
def bgX : List ByteArray := tornRes bgG bgE bgP
theorem bg1 : chkDeeds bgF bgD = 0 := by kernel_rfl
theorem bg2 : chkDeeds bgG [bgE] = 0 := by kernel_rfl
theorem bg3 : readRes bgG 128 3 = (⟨#[255, 12, 255]⟩, 0) := by kernel_rfl
theorem bg4 : readRes bgX 129 1 = (⟨#[13]⟩, 0) := by kernel_rfl
theorem bg5 : chkFl bgG = 0 := by kernel_rfl


set_option maxHeartbeats 4000000 in
theorem flashBegun_any (w : World) : Calls Try.prog 7 #[] w fun e w' => e = .returned (.bool true) ∧ Below w.heap.size w w' := by
  have HN : Hid (∀ W, Calls Try.prog 11 #[.int .i64 2] W fun e w' => (∃ r, e = .returned (.tuple #[.agg #[r], .int .i64 0]) ∧ IsFl w'.heap.size w' r bgF) ∧ Below W.heap.size W w') := fun W => by
    have := flNew_any 2 W
    rw [if_pos (by decide)] at this
    exact this
  have HD : Hid (∀ v vl W, IsFl W.heap.size W v bgF → RowOf 3 Deed.cell W.heap.size W vl bgD → Calls Try.prog 8 #[.agg #[v], vl] W fun e w' => (∃ r, e = .returned (.tuple #[.agg #[r], .int .i64 0]) ∧ IsFl w'.heap.size w' r bgG) ∧ Below W.heap.size W w') := fun v vl W h1 h2 => by
    have := do_doc bgF v bgD vl W h1 h2
    rw [bg1] at this
    exact this
  have HR1 : Hid (∀ v W, IsFl W.heap.size W v bgG → Calls Try.prog 10 #[.agg #[v], .int .i64 128, .int .i64 3] W fun e w' => e = .returned (.tuple #[.string ⟨#[255, 12, 255]⟩, .int .i64 0]) ∧ Below W.heap.size W w') := fun v W h => by
    have := flRead_any bgG v 128 3 W h (by decide) (by decide)
    rw [bg3] at this
    exact this
  have HT : Hid (∀ v W, IsFl W.heap.size W v bgG → Calls Try.prog 12 #[.agg #[v], .agg #[.int .i64 2, .int .i64 1, .int .i64 0], .string ⟨#[255, 1]⟩] W fun e w' => (∃ r, e = .returned (.tuple #[.agg #[r], .int .i64 0]) ∧ IsFl w'.heap.size w' r bgX) ∧ Below W.heap.size W w') := fun v W h => by
    have := torn_doc bgG v bgE bgP W h (by decide)
    rw [bg2] at this
    exact this
  have HR2 : Hid (∀ v W, IsFl W.heap.size W v bgX → Calls Try.prog 10 #[.agg #[v], .int .i64 129, .int .i64 1] W fun e w' => e = .returned (.tuple #[.string ⟨#[13]⟩, .int .i64 0]) ∧ Below W.heap.size W w') := fun v W h => by
    have := flRead_any bgX v 129 1 W h (by decide) (by decide)
    rw [bg4] at this
    exact this
  have HC : Hid (∀ v W, IsFl W.heap.size W v bgG → Calls Try.prog 19 #[.agg #[v]] W fun e w' => e = .returned (.int .i64 0) ∧ Below W.heap.size W w') := fun v W h => by
    have := flCheck_any bgG v W h.1
    rw [bg5] at this
    exact this
  generalize bgG = G at *
  generalize bgX = X at *
  generalize bgF = F at *
  go_enter Try.func7, Try.ntmps7
  go_wp2_with fail
  refine (HN.out _).mono ?_
  rintro e w1 ⟨⟨r1, rfl, h1⟩, b1⟩
  obtain ⟨a1, c1, e1, _⟩ := h1.1
  subst e1
  have HB1 : Hid (Below w.heap.size w w1) := b1
  have HI1 : Hid (IsFl (w1.alloc (.cells #[.slice a1 F.length c1] 24)).heap.size (w1.alloc (.cells #[.slice a1 F.length c1] 24)) (.slice a1 F.length c1) F) := (h1.below ((Below.refl _ _).alloc (Nat.le_refl _) _)).more (by simp)
  clear b1 h1 HN
  have HB2 : Hid (Below w.heap.size w (w1.alloc (.cells #[.slice a1 F.length c1] 24))) := HB1.out.alloc HB1.out.size _
  generalize F.length = nF at *
  have HROW : Hid (∀ (W : World) n, n = W.heap.size → RowOf 3 Deed.cell (W.alloc (.cells #[.int .i64 1, .int .i64 129, .int .i64 15, .int .i64 1, .int .i64 129, .int .i64 60] 32)).heap.size (W.alloc (.cells #[.int .i64 1, .int .i64 129, .int .i64 15, .int .i64 1, .int .i64 129, .int .i64 60] 32)) (.slice (some ⟨n, 0, none⟩) 2 2) bgD) := fun W n hn => by
    subst hn
    exact rowOf_cells (C := deedC) (cells := Deed.cell) (sz := 3) (fun _ => rfl) deedC_at (CellsAt.new W 32 #[.int .i64 1, .int .i64 129, .int .i64 15, .int .i64 1, .int .i64 129, .int .i64 60]) bgD (show 2 ≤ 255 by decide) 2 rfl
  go_wp2_with fail
  have HI2 : Hid (IsFl ((w1.alloc (.cells #[.slice a1 nF c1] 24)).alloc (.cells #[.int .i64 1, .int .i64 129, .int .i64 15, .int .i64 1, .int .i64 129, .int .i64 60] 32)).heap.size ((w1.alloc (.cells #[.slice a1 nF c1] 24)).alloc (.cells #[.int .i64 1, .int .i64 129, .int .i64 15, .int .i64 1, .int .i64 129, .int .i64 60] 32)) (.slice a1 nF c1) F) := (HI1.out.below ((Below.refl _ _).alloc (Nat.le_refl _) _)).more (by simp)
  have HB3 : Hid (Below w.heap.size w ((w1.alloc (.cells #[.slice a1 nF c1] 24)).alloc (.cells #[.int .i64 1, .int .i64 129, .int .i64 15, .int .i64 1, .int .i64 129, .int .i64 60] 32))) := HB2.out.alloc HB2.out.size _
  have HRW : Hid (RowOf 3 Deed.cell ((w1.alloc (.cells #[.slice a1 nF c1] 24)).alloc (.cells #[.int .i64 1, .int .i64 129, .int .i64 15, .int .i64 1, .int .i64 129, .int .i64 60] 32)).heap.size ((w1.alloc (.cells #[.slice a1 nF c1] 24)).alloc (.cells #[.int .i64 1, .int .i64 129, .int .i64 15, .int .i64 1, .int .i64 129, .int .i64 60] 32)) (.slice (some ⟨w1.heap.size + 1, 0, none⟩) 2 2) bgD) := HROW.out _ _ (by simp)
  generalize (w1.alloc (.cells #[.slice a1 nF c1] 24)).alloc (.cells #[.int .i64 1, .int .i64 129, .int .i64 15, .int .i64 1, .int .i64 129, .int .i64 60] 32) = w2 at *
  clear HI1 HB2 HROW
  refine (HD.out _ _ _ HI2.out HRW.out).mono ?_
  rintro e w3 ⟨⟨r3, rfl, h3⟩, b3⟩
  obtain ⟨a3, c3, e3, _⟩ := h3.1
  subst e3
  have HB4 : Hid (Below w.heap.size w (w3.alloc (.cells #[.slice a3 G.length c3] 24))) := by
    have := HB3.out.trans (b3.mono HB3.out.size)
    exact this.alloc this.size _
  have HI4 : Hid (IsFl (w3.alloc (.cells #[.slice a3 G.length c3] 24)).heap.size (w3.alloc (.cells #[.slice a3 G.length c3] 24)) (.slice a3 G.length c3) G) := (h3.below ((Below.refl _ _).alloc (Nat.le_refl _) _)).more (by simp)
  have HC4 : Hid (CellsAt (w3.alloc (.cells #[.slice a3 G.length c3] 24)) w3.heap.size 24 #[.slice a3 G.length c3]) := CellsAt.new _ _ _
  clear b3 h3 HD HI2 HRW HB3
  generalize G.length = nG at *
  go_wp2_with fail
  generalize (w3.alloc (.cells #[.slice a3 nG c3] 24)) = w4 at *
  generalize w3.heap.size = B3 at *
  refine (HR1.out _ _ HI4.out).mono ?_
  rintro e w5 ⟨rfl, b5⟩
  have HB5 : Hid (Below w.heap.size w w5) := HB4.out.trans (b5.mono HB4.out.size)
  have HI5 : Hid (IsFl w5.heap.size w5 (.slice a3 nG c3) G) := (HI4.out.below b5).more b5.size
  have HC5 : Hid (CellsAt w5 B3 24 #[.slice a3 nG c3]) := HC4.out.below b5 HC4.out.lt
  clear b5 HB4 HI4 HC4 HR1
  have x5 := HC5.out.cell 0
  have l5 := HC5.out.lt
  simp at x5
  go_wp2_with fail
  refine (HT.out _ _ HI5.out).mono ?_
  rintro e w6 ⟨⟨r6, rfl, h6⟩, b6⟩
  obtain ⟨a6, c6, e6, _⟩ := h6.1
  subst e6
  have HB7 : Hid (Below w.heap.size w (w6.alloc (.cells #[.slice a6 X.length c6] 24))) := by
    have := HB5.out.trans (b6.mono HB5.out.size)
    exact this.alloc this.size _
  have HI7 : Hid (IsFl (w6.alloc (.cells #[.slice a6 X.length c6] 24)).heap.size (w6.alloc (.cells #[.slice a6 X.length c6] 24)) (.slice a6 X.length c6) X) := (h6.below ((Below.refl _ _).alloc (Nat.le_refl _) _)).more (by simp)
  have hg7 := ((HI5.out.below b6).more b6.size).below ((Below.refl w6.heap.size w6).alloc (Nat.le_refl _) (.cells #[.slice a6 X.length c6] 24))
  have HG7 : Hid (IsFl (w6.alloc (.cells #[.slice a6 X.length c6] 24)).heap.size (w6.alloc (.cells #[.slice a6 X.length c6] 24)) (.slice a3 nG c3) G) := hg7.more (by simp)
  have HC7 : Hid (CellsAt (w6.alloc (.cells #[.slice a6 X.length c6] 24)) B3 24 #[.slice a3 nG c3]) := (HC5.out.below b6 HC5.out.lt).kept (World.grownBy_alloc _ _ none) (by simp)
  clear b6 h6 HT HB5 HI5 HC5 hg7 x5 l5
  generalize X.length = nX at *
  go_wp2_with fail
  generalize (w6.alloc (.cells #[.slice a6 nX c6] 24)) = w7 at *
  generalize w6.heap.size = B6 at *
  refine (HR2.out _ _ HI7.out).mono ?_
  rintro e w8 ⟨rfl, b8⟩
  have HB8 : Hid (Below w.heap.size w w8) := HB7.out.trans (b8.mono HB7.out.size)
  have HG8 : Hid (IsFl w8.heap.size w8 (.slice a3 nG c3) G) := (HG7.out.below b8).more b8.size
  have HC8 : Hid (CellsAt w8 B3 24 #[.slice a3 nG c3]) := HC7.out.below b8 HC7.out.lt
  clear b8 HB7 HI7 HC7 HG7 HR2
  have x8 := HC8.out.cell 0
  have l8 := HC8.out.lt
  simp at x8
  go_wp2_with fail
  refine (HC.out _ _ HG8.out).mono ?_
  rintro e w9 ⟨rfl, b9⟩
  have HB9 : Hid (Below w.heap.size w w9) := HB8.out.trans (b9.mono HB8.out.size)
  clear b9 HB8 HG8 HC8 HC x8 l8
  go_wp2
  go_ret
  exact ⟨rfl, HB9.out⟩

end Go.Proofs.Ytnomapbiklfciaf
