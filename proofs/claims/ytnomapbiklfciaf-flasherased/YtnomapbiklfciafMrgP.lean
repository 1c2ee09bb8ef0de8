/- Texts that are laid together. -/
import Derived.Test.YtnomapbiklfciafMrgO
import Derived.Lib.QuietBelow
import Derived.BigQuiet

/- What must be in any case, of flashes. -/
namespace Go.Proofs.Ytnomapbiklfciaf
open Go.RowKit Go.PlainAid

set_option maxRecDepth 100000

/-- What Do and Torn answer. -/
def doRes (F : List ByteArray) (l : List Deed) : List ByteArray := if chkDeeds F l = 0 then doneAll F l else []
def tornRes (F : List ByteArray) (d : Deed) (p : ByteArray) : List ByteArray := if chkDeeds F [d] = 0 then tornB F d p else []

theorem do_doc (F : List ByteArray) (v : Value) (l : List Deed) (vl : Value) (w : World) (hF : IsFl w.heap.size w v F) (hl : RowOf 3 Deed.cell w.heap.size w vl l) :
    Calls Try.prog 8 #[.agg #[v], vl] w fun e w' => (∃ r, e = .returned (.tuple #[.agg #[r], .int .i64 (chkDeeds F l)]) ∧ IsFl w'.heap.size w' r (doRes F l)) ∧ Below w.heap.size w w' := by
  have := flDo_any F v l vl w hF hl
  rw [(chg_done F l).1, (chg_done F l).2] at this
  exact this
theorem torn_doc (F : List ByteArray) (v : Value) (d : Deed) (p : ByteArray) (w : World) (hF : IsFl w.heap.size w v F) (hp : p.size ≤ 9223372036854775807) :
    Calls Try.prog 12 #[.agg #[v], d.value, .string p] w fun e w' => (∃ r, e = .returned (.tuple #[.agg #[r], .int .i64 (chkDeeds F [d])]) ∧ IsFl w'.heap.size w' r (tornRes F d p)) ∧ Below w.heap.size w w' := by
  have := flTorn_any F v d p w hF hp
  rw [(chg_torn F d p).1, (chg_torn F d p).2] at this
  exact this

def bgD : List Deed := [⟨1, 129, 15⟩, ⟨1, 129, 60⟩]
def bgE : Deed := ⟨2, 1, 0⟩
def bgP : ByteArray := ⟨#[255, 1]⟩
def bgF : List ByteArray := newRes 2
def bgG : List ByteArray := doRes bgF bgD
def bgX : List ByteArray := tornRes bgG bgE bgP
theorem bg1 : chkDeeds bgF bgD = 0 := by kernel_rfl
theorem bg2 : chkDeeds bgG [bgE] = 0 := by kernel_rfl
theorem bg3 : readRes bgG 128 3 = (⟨#[255, 12, 255]⟩, 0) := by kernel_rfl
theorem bg4 : readRes bgX 129 1 = (⟨#[13]⟩, 0) := by kernel_rfl
theorem bg5 : chkFl bgG = 0 := by kernel_rfl


set_option maxHeartbeats 4000000 in
theorem flashBegun_any (w : World) : Calls Try.prog 7 #[] w fun e w' => e = .returned (.bool true) ∧ Below w.heap.size w w' := by
  have HN : Hid (∀ W, Calls Try.prog 11 #[.int .i64 2] W fun e w' => (∃ r, e = .returned (.tuple #[.agg #[r], .int .i64 0]) ∧ IsFl w'.heap.size w' r bgF) ∧ Below W.heap.size W w') := fun W => by
    have := flNew_any 2 W
    rw [if_pos (by decide)] at this
    exact this
  have HD : Hid (∀ v vl W, IsFl W.heap.size W v bgF → RowOf 3 Deed.cell W.heap.size W vl bgD → Calls Try.prog 8 #[.agg #[v], vl] W fun e w' => (∃ r, e = .returned (.tuple #[.agg #[r], .int .i64 0]) ∧ IsFl w'.heap.size w' r bgG) ∧ Below W.heap.size W w') := fun v vl W h1 h2 => by
    have := do_doc bgF v bgD vl W h1 h2
    rw [bg1] at this
    exact this
  have HR1 : Hid (∀ v W, IsFl W.heap.size W v bgG → Calls Try.prog 10 #[.agg #[v], .int .i64 128, .int .i64 3] W fun e w' => e = .returned (.tuple #[.string ⟨#[255, 12, 255]⟩, .int .i64 0]) ∧ Below W.heap.size W w') := fun v W h => by
    have := flRead_any bgG v 128 3 W h (by decide) (by decide)
    rw [bg3] at this
    exact this
  have HT : Hid (∀ v W, IsFl W.heap.size W v bgG → Calls Try.prog 12 #[.agg #[v], .agg #[.int .i64 2, .int .i64 1, .int .i64 0], .string ⟨#[255, 1]⟩] W fun e w' => (∃ r, e = .returned (.tuple #[.agg #[r], .int .i64 0]) ∧ IsFl w'.heap.size w' r bgX) ∧ Below W.heap.size W w') := fun v W h => by
    have := torn_doc bgG v bgE bgP W h (by decide)
    rw [bg2] at this
    exact this
  have HR2 : Hid (∀ v W, IsFl W.heap.size W v bgX → Calls Try.prog 10 #[.agg #[v], .int .i64 129, .int .i64 1] W fun e w' => e = .returned (.tuple #[.string ⟨#[13]⟩, .int .i64 0]) ∧ Below W.heap.size W w') := fun v W h => by
    have := flRead_any bgX v 129 1 W h (by decide) (by decide)
    rw [bg4] at this
    exact this
  have HC : Hid (∀ v W, IsFl W.heap.size W v bgG → Calls Try.prog 19 #[.agg #[v]] W fun e w' => e = .returned (.int .i64 0) ∧ Below W.heap.size W w') := fun v W h => by
    have := flCheck_any bgG v W h.1
    rw [bg5] at this
    exact this
  generalize bgG = G at *
  generalize bgX = X at *
  generalize bgF = F at *
  go_enter Try.func7, Try.ntmps7
  go_wp2_with fail
  refine (HN.out _).mono ?_
  rintro e w1 ⟨⟨r1, rfl, h1⟩, b1⟩
  obtain ⟨a1, c1, e1, _⟩ := h1.1
  subst e1
  have HB1 : Hid (Below w.heap.size w w1) := b1
  have HI1 : Hid (IsFl (w1.alloc (.cells #[.slice a1 F.length c1] 24)).heap.size (w1.alloc (.cells #[.slice a1 F.length c1] 24)) (.slice a1 F.length c1) F) := (h1.below ((Below.refl _ _).alloc (Nat.le_refl _) _)).more (by simp)
  clear b1 h1 HN
  have HB2 : Hid (Below w.heap.size w (w1.alloc (.cells #[.slice a1 F.length c1] 24))) := HB1.out.alloc HB1.out.size _
  generalize F.length = nF at *
  have HROW : Hid (∀ (W : World) n, n = W.heap.size → RowOf 3 Deed.cell (W.alloc (.cells #[.int .i64 1, .int .i64 129, .int .i64 15, .int .i64 1, .int .i64 129, .int .i64 60] 32)).heap.size (W.alloc (.cells #[.int .i64 1, .int .i64 129, .int .i64 15, .int .i64 1, .int .i64 129, .int .i64 60] 32)) (.slice (some ⟨n, 0, none⟩) 2 2) bgD) := fun W n hn => by
    subst hn
    exact rowOf_cells (C := deedC) (cells := Deed.cell) (sz := 3) (fun _ => rfl) deedC_at (CellsAt.new W 32 #[.int .i64 1, .int .i64 129, .int .i64 15, .int .i64 1, .int .i64 129, .int .i64 60]) bgD (show 2 ≤ 255 by decide) 2 rfl
  go_wp2_with fail
  have HI2 : Hid (IsFl ((w1.alloc (.cells #[.slice a1 nF c1] 24)).alloc (.cells #[.int .i64 1, .int .i64 129, .int .i64 15, .int .i64 1, .int .i64 129, .int .i64 60] 32)).heap.size ((w1.alloc (.cells #[.slice a1 nF c1] 24)).alloc (.cells #[.int .i64 1, .int .i64 129, .int .i64 15, .int .i64 1, .int .i64 129, .int .i64 60] 32)) (.slice a1 nF c1) F) := (HI1.out.below ((Below.refl _ _).alloc (Nat.le_refl _) _)).more (by simp)
  have HB3 : Hid (Below w.heap.size w ((w1.alloc (.cells #[.slice a1 nF c1] 24)).alloc (.cells #[.int .i64 1, .int .i64 129, .int .i64 15, .int .i64 1, .int .i64 129, .int .i64 60] 32))) := HB2.out.alloc HB2.out.size _
  have HRW : Hid (RowOf 3 Deed.cell ((w1.alloc (.cells #[.slice a1 nF c1] 24)).alloc (.cells #[.int .i64 1, .int .i64 129, .int .i64 15, .int .i64 1, .int .i64 129, .int .i64 60] 32)).heap.size ((w1.alloc (.cells #[.slice a1 nF c1] 24)).alloc (.cells #[.int .i64 1, .int .i64 129, .int .i64 15, .int .i64 1, .int .i64 129, .int .i64 60] 32)) (.slice (some ⟨w1.heap.size + 1, 0, none⟩) 2 2) bgD) := HROW.out _ _ (by simp)
  generalize (w1.alloc (.cells #[.slice a1 nF c1] 24)).alloc (.cells #[.int .i64 1, .int .i64 129, .int .i64 15, .int .i64 1, .int .i64 129, .int .i64 60] 32) = w2 at *
  clear HI1 HB2 HROW
  refine (HD.out _ _ _ HI2.out HRW.out).mono ?_
  rintro e w3 ⟨⟨r3, rfl, h3⟩, b3⟩
  obtain ⟨a3, c3, e3, _⟩ := h3.1
  subst e3
  have HB4 : Hid (Below w.heap.size w (w3.alloc (.cells #[.slice a3 G.length c3] 24))) := by
    have := HB3.out.trans (b3.mono HB3.out.size)
    exact this.alloc this.size _
  have HI4 : Hid (IsFl (w3.alloc (.cells #[.slice a3 G.length c3] 24)).heap.size (w3.alloc (.cells #[.slice a3 G.length c3] 24)) (.slice a3 G.length c3) G) := (h3.below ((Below.refl _ _).alloc (Nat.le_refl _) _)).more (by simp)
  have HC4 : Hid (CellsAt (w3.alloc (.cells #[.slice a3 G.length c3] 24)) w3.heap.size 24 #[.slice a3 G.length c3]) := CellsAt.new _ _ _
  clear b3 h3 HD HI2 HRW HB3
  generalize G.length = nG at *
  go_wp2_with fail
  generalize (w3.alloc (.cells #[.slice a3 nG c3] 24)) = w4 at *
  generalize w3.heap.size = B3 at *
  refine (HR1.out _ _ HI4.out).mono ?_
  rintro e w5 ⟨rfl, b5⟩
  have HB5 : Hid (Below w.heap.size w w5) := HB4.out.trans (b5.mono HB4.out.size)
  have HI5 : Hid (IsFl w5.heap.size w5 (.slice a3 nG c3) G) := (HI4.out.below b5).more b5.size
  have HC5 : Hid (CellsAt w5 B3 24 #[.slice a3 nG c3]) := HC4.out.below b5 HC4.out.lt
  clear b5 HB4 HI4 HC4 HR1
  have x5 := HC5.out.cell 0
  have l5 := HC5.out.lt
  simp at x5
  go_wp2_with fail
  refine (HT.out _ _ HI5.out).mono ?_
  rintro e w6 ⟨⟨r6, rfl, h6⟩, b6⟩
  obtain ⟨a6, c6, e6, _⟩ := h6.1
  subst e6
  have HB7 : Hid (Below w.heap.size w (w6.alloc (.cells #[.slice a6 X.length c6] 24))) := by
    have := HB5.out.trans (b6.mono HB5.out.size)
    exact this.alloc this.size _
  have HI7 : Hid (IsFl (w6.alloc (.cells #[.slice a6 X.length c6] 24)).heap.size (w6.alloc (.cells #[.slice a6 X.length c6] 24)) (.slice a6 X.length c6) X) := (h6.below ((Below.refl _ _).alloc (Nat.le_refl _) _)).more (by simp)
  have hg7 := ((HI5.out.below b6).more b6.size).below ((Below.refl w6.heap.size w6).alloc (Nat.le_refl _) (.cells #[.slice a6 X.length c6] 24))
  have HG7 : Hid (IsFl (w6.alloc (.cells #[.slice a6 X.length c6] 24)).heap.size (w6.alloc (.cells #[.slice a6 X.length c6] 24)) (.slice a3 nG c3) G) := hg7.more (by simp)
  have HC7 : Hid (CellsAt (w6.alloc (.cells #[.slice a6 X.length c6] 24)) B3 24 #[.slice a3 nG c3]) := (HC5.out.below b6 HC5.out.lt).kept (World.grownBy_alloc _ _ none) (by simp)
  clear b6 h6 HT HB5 HI5 HC5 hg7 x5 l5
  generalize X.length = nX at *
  go_wp2_with fail
  generalize (w6.alloc (.cells #[.slice a6 nX c6] 24)) = w7 at *
  generalize w6.heap.size = B6 at *
  refine (HR2.out _ _ HI7.out).mono ?_
  rintro e w8 ⟨rfl, b8⟩
  have HB8 : Hid (Below w.heap.size w w8) := HB7.out.trans (b8.mono HB7.out.size)
  have HG8 : Hid (IsFl w8.heap.size w8 (.slice a3 nG c3) G) := (HG7.out.below b8).more b8.size
  have HC8 : Hid (CellsAt w8 B3 24 #[.slice a3 nG c3]) := HC7.out.below b8 HC7.out.lt
  clear b8 HB7 HI7 HC7 HG7 HR2
  have x8 := HC8.out.cell 0
  have l8 := HC8.out.lt
  simp at x8
  go_wp2_with fail
  refine (HC.out _ _ HG8.out).mono ?_
  rintro e w9 ⟨rfl, b9⟩
  have HB9 : Hid (Below w.heap.size w w9) := HB8.out.trans (b9.mono HB8.out.size)
  clear b9 HB8 HG8 HC8 HC x8 l8
  go_wp2
  go_ret
  exact ⟨rfl, HB9.out⟩

end Go.Proofs.Ytnomapbiklfciaf

/- FlashBits: the walk. -/
namespace Go.Proofs.Ytnomapbiklfciaf.flashBits
open Go.RowKit Go.PlainAid Go.Lib

set_option maxRecDepth 100000

theorem chk_one (F : List ByteArray) (d : Deed) : (chkDeeds F [d] = 0 ↔ chkFl F = 0 ∧ chkDeed (F.length * 128) d = 0) := by
  unfold chkDeeds chkDs chkDs
  by_cases h : chkFl F = 0
  · rw [if_pos h]; exact ⟨fun h2 => ⟨h, h2⟩, fun h2 => h2.2⟩
  · rw [if_neg h]; exact ⟨fun h2 => absurd h2 h, fun h2 => absurd h2.1 h⟩
theorem doRes_one {F : List ByteArray} {d : Deed} (h : chkDeeds F [d] = 0) : doRes F [d] = doneB F d := if_pos h
theorem tornRes_one {F : List ByteArray} {d : Deed} {p : ByteArray} (h : chkDeeds F [d] = 0) : tornRes F d p = tornB F d p := if_pos h

theorem u8_y1 (b v s : UInt8) : mixB b (b &&& v) s &&& v = b &&& v := by
  apply u8_ext; intro i hi
  unfold mixB
  simp only [UInt8.toBitVec_and, UInt8.toBitVec_or, UInt8.toBitVec_not, BitVec.getLsbD_and, BitVec.getLsbD_or, BitVec.getLsbD_not, hi, decide_true, Bool.true_and]
  cases b.toBitVec.getLsbD i <;> cases v.toBitVec.getLsbD i <;> cases s.toBitVec.getLsbD i <;> rfl
theorem u8_y2 (b v s : UInt8) : b ||| mixB b (b &&& v) s = b := by
  apply u8_ext; intro i hi
  unfold mixB
  simp only [UInt8.toBitVec_and, UInt8.toBitVec_or, UInt8.toBitVec_not, BitVec.getLsbD_and, BitVec.getLsbD_or, BitVec.getLsbD_not, hi, decide_true, Bool.true_and]
  cases b.toBitVec.getLsbD i <;> cases v.toBitVec.getLsbD i <;> cases s.toBitVec.getLsbD i <;> rfl
theorem u8_y3 (b v : UInt8) : b ||| (b &&& v) = b := by
  apply u8_ext; intro i hi
  simp only [UInt8.toBitVec_and, UInt8.toBitVec_or, BitVec.getLsbD_and, BitVec.getLsbD_or]
  cases b.toBitVec.getLsbD i <;> cases v.toBitVec.getLsbD i <;> rfl
theorem bits_or_u8 (a b : UInt8) : bits .or .u8 (a.toNat : Int) (b.toNat : Int) = ((a ||| b).toNat : Int) := by
  rw [(bits_nat .u8 8 (by decide) wraps_u8 a.toNat b.toNat a.toNat_lt b.toNat_lt).2, UInt8.toNat_or]

/-- A torn byte, turned then. -/
theorem torn_bec (d : Deed) (p : ByteArray) (k : Nat) (b : UInt8) (hk : d.kind = 1 ∨ d.kind = 2) : d.bec (b ^^^ tornT d.kind p k (b ^^^ d.bec b)) = d.bec b := by
  unfold Deed.bec
  rcases hk with hk | hk
  · rw [if_neg (by omega), if_neg (by omega), hk]
    show (b ^^^ ((b ^^^ (b &&& _)) &&& ~~~ _)) &&& _ = _
    rw [u8_x4, u8_y1]
  · rw [if_pos hk, if_pos hk]
theorem turn_again (d : Deed) (p : ByteArray) (c : List UInt8) (hk : d.kind = 1 ∨ d.kind = 2) : turnM allT d (turnM (tornT d.kind p) d c) = turnM allT d c := by
  apply List.ext_getElem?
  intro j
  unfold turnM
  rw [turnK_at, turnK_at, turnK_at]
  cases c[j]? with
  | none => rfl
  | some b =>
    simp only [Option.map_some]
    by_cases h : d.start ≤ j ∧ j < d.start + d.many
    · rw [if_pos h, if_pos h, if_pos h]
      show some ((b ^^^ _) ^^^ ((b ^^^ _) ^^^ d.bec (b ^^^ _))) = some (b ^^^ (b ^^^ d.bec b))
      rw [torn_bec d p _ b hk]
      congr 1
      generalize (b ^^^ tornT d.kind p (j - d.start) (b ^^^ d.bec b)) = x
      generalize d.bec b = y
      have e : ∀ x y : UInt8, x ^^^ (x ^^^ y) = y := fun x y => by
        apply u8_ext; intro i hi
        simp only [UInt8.toBitVec_xor, BitVec.getLsbD_xor]
        cases x.toBitVec.getLsbD i <;> cases y.toBitVec.getLsbD i <;> rfl
      rw [e, e]
    · rw [if_neg h, if_neg h, if_neg h]

/-- What is there of a deed that is right. -/
theorem facts {F : List ByteArray} {d : Deed} (p : ByteArray) (h : chkDeeds F [d] = 0) :
    GoodF F.length F ∧ GoodF F.length (doneB F d) ∧ GoodF F.length (tornB F d p) ∧ chkDeeds (tornB F d p) [d] = 0 ∧ doneB (tornB F d p) d = doneB F d ∧ joinM (doneB F d) = turnM allT d (joinM F) ∧ joinM (tornB F d p) = turnM (tornT d.kind p) d (joinM F) ∧ (d.kind = 1 ∨ d.kind = 2) ∧ 0 ≤ d.pos := by
  obtain ⟨h1, h2⟩ := (chk_one F d).1 h
  have hG := goodF_iff.1 h1
  have hA := doneB_good hG h2
  have hB := tornB_good hG h2 p
  have hk : d.kind = 1 ∨ d.kind = 2 := by rcases (deed_right h2).2.2.2.2 with ⟨h, _⟩ | ⟨h, _⟩ <;> simp [h]
  have h2' : chkDeed ((tornB F d p).length * 128) d = 0 := by rw [hB.1]; exact h2
  have hB2 : GoodF F.length (doneB (tornB F d p) d) := doneB_good hB h2
  refine ⟨hG, hA, hB, (chk_one _ d).2 ⟨hB.chk, h2'⟩, ?_, (turn_done hG h2).symm, (turn_torn hG h2 p).symm, hk, (deed_right h2).1⟩
  rw [← blocksM_join hB2, ← turn_done hB h2, ← turn_torn hG h2 p, turn_again d p _ hk, turn_done hG h2, blocksM_join hA]

/-- What the law says of each byte. -/
theorem bytes_law {F : List ByteArray} {d : Deed} (p : ByteArray) (h : chkDeeds F [d] = 0) (j : Nat) (hj : j < (joinM F).length) : ∃ x y z : UInt8, (joinM F)[j]? = some x ∧ (joinM (doneB F d))[j]? = some y ∧ (joinM (tornB F d p))[j]? = some z ∧
    ((d.kind = 1 ∧ (j : Int) = d.pos ∧ x ||| y = x ∧ x ||| z = x) ∨ (d.kind = 1 ∧ (j : Int) ≠ d.pos ∧ y = x ∧ z = x ∧ x ||| x = x) ∨ (d.kind = 2 ∧ (j : Int) / 128 = d.pos) ∨ (d.kind = 2 ∧ (j : Int) / 128 ≠ d.pos ∧ y = x ∧ z = x)) := by
  obtain ⟨_, _, _, _, _, hA, hB, hk, hp⟩ := facts p h
  obtain ⟨h1, h2⟩ := (chk_one F d).1 h
  obtain ⟨_, _, _, _, h5⟩ := deed_right h2
  obtain ⟨x, hx⟩ : ∃ x, (joinM F)[j]? = some x := ⟨_, List.getElem?_eq_getElem hj⟩
  have hY : (joinM (doneB F d))[j]? = some (if d.start ≤ j ∧ j < d.start + d.many then x ^^^ (x ^^^ d.bec x) else x) := by
    rw [hA]; unfold turnM; rw [turnK_at, hx]; rfl
  have hZ : (joinM (tornB F d p))[j]? = some (if d.start ≤ j ∧ j < d.start + d.many then x ^^^ tornT d.kind p (j - d.start) (x ^^^ d.bec x) else x) := by
    rw [hB]; unfold turnM; rw [turnK_at, hx]; rfl
  refine ⟨x, _, _, hx, hY, hZ, ?_⟩
  have hor : x ||| x = x := by
    have := u8_y3 x 255
    rwa [show x &&& 255 = x from by apply u8_ext; intro i hi; have f : ∀ i, i < 8 → (255 : UInt8).toBitVec.getLsbD i = true := by decide
                                    simp only [UInt8.toBitVec_and, BitVec.getLsbD_and, f i hi, Bool.and_true]] at this
  rcases h5 with ⟨hk1, hs, hm⟩ | ⟨hk2, _, hs, hm⟩
  · by_cases hj1 : (j : Int) = d.pos
    · refine .inl ⟨hk1, hj1, ?_⟩
      rw [if_pos (by omega), if_pos (by omega)]
      have hb : d.bec x = x &&& UInt8.ofNat d.val.toNat := by unfold Deed.bec; rw [if_neg (by omega)]
      rw [hb, hk1]
      refine ⟨by rw [u8_x2, u8_y3], ?_⟩
      show x ||| (x ^^^ ((x ^^^ (x &&& _)) &&& ~~~ _)) = x
      rw [u8_x4, u8_y2]
    · refine .inr (.inl ⟨hk1, hj1, ?_⟩)
      rw [if_neg (by omega), if_neg (by omega)]
      exact ⟨rfl, rfl, hor⟩
  · by_cases hj1 : (j : Int) / 128 = d.pos
    · exact .inr (.inr (.inl ⟨hk2, hj1⟩))
    · refine .inr (.inr (.inr ⟨hk2, hj1, ?_⟩))
      rw [if_neg (by omega), if_neg (by omega)]
      exact ⟨rfl, rfl⟩


set_option maxHeartbeats 8000000 in
theorem walk_bad (F : List ByteArray) (c : Value) (d : Deed) (p : ByteArray) (w : World) (hF : IsFl w.heap.size w c F) (hp : p.size ≤ 140737488351232) (hE : chkDeeds F [d] ≠ 0) :
    Calls Try.prog 5 #[.agg #[c], d.value, .string p] w fun e w' => e = .returned (.bool true) ∧ Below w.heap.size w w' := by
  have HBG : Hid (∀ W, Calls Try.prog 7 #[] W fun e w' => e = .returned (.bool true) ∧ Below W.heap.size W w') := flashBegun_any
  have HDO : Hid (∀ v vl W, IsFl W.heap.size W v (F) → RowOf 3 Deed.cell W.heap.size W vl [d] → Calls Try.prog 8 #[.agg #[v], vl] W fun e w' => (∃ r, e = .returned (.tuple #[.agg #[r], .int .i64 (chkDeeds F [d])]) ∧ IsFl w'.heap.size w' r ([])) ∧ Below W.heap.size W w') := fun v vl W h1 h2 => by
    have := do_doc (F) v [d] vl W h1 h2
    rw [show doRes F [d] = [] from if_neg hE] at this
    exact this
  have HTO : Hid (∀ v W, IsFl W.heap.size W v (F) → Calls Try.prog 12 #[.agg #[v], .agg #[.int .i64 d.kind, .int .i64 d.pos, .int .i64 d.val], .string p] W fun e w' => (∃ r, e = .returned (.tuple #[.agg #[r], .int .i64 (chkDeeds F [d])]) ∧ IsFl w'.heap.size w' r ([])) ∧ Below W.heap.size W w') := fun v W h1 => by
    have := torn_doc (F) v d p W h1 (by omega)
    rw [show tornRes F d p = [] from if_neg hE] at this
    exact this
  have HROW : Hid (∀ (W : World) n, n = W.heap.size → RowOf 3 Deed.cell (W.alloc (.cells #[.int .i64 d.kind, .int .i64 d.pos, .int .i64 d.val] 32)).heap.size (W.alloc (.cells #[.int .i64 d.kind, .int .i64 d.pos, .int .i64 d.val] 32)) (.slice (some ⟨n, 0, none⟩) 1 1) [d]) := fun W n hn => by
    subst hn
    exact rowOf_cells (C := deedC) (cells := Deed.cell) (sz := 3) (fun _ => rfl) deedC_at (CellsAt.new W 32 (deedC d).toArray) [d] (show 1 ≤ 255 by decide) 1 rfl
  obtain ⟨⟨a, cap, rfl, _, _⟩, _⟩ := id hF
  generalize chkDeeds F [d] = E at *
  have hE' : (E != 0) = true := by simpa using hE
  have hEE : (E == E) = true := by simp
  generalize F.length = nF at *
  obtain ⟨kd, ps, dv⟩ := d
  unfold Deed.value
  dsimp only at *
  generalize hdl : [(⟨kd, ps, dv⟩ : Deed)] = dl at *
  clear hE hdl
  have HB0 : Hid (Below w.heap.size w ((w.alloc (.cells #[.slice a nF cap] 24)).alloc (.cells #[.int .i64 kd, .int .i64 ps, .int .i64 dv] 32))) := ((Below.refl _ _).alloc (Nat.le_refl _) _).alloc (by simp) _
  have Hf : Hid (CellsAt ((w.alloc (.cells #[.slice a nF cap] 24)).alloc (.cells #[.int .i64 kd, .int .i64 ps, .int .i64 dv] 32)) (w.heap.size) 24 #[.slice a nF cap]) := (CellsAt.new w 24 #[.slice a nF cap]).kept (World.grownBy_alloc _ _ none) (by simp)
  have Hd : Hid (CellsAt ((w.alloc (.cells #[.slice a nF cap] 24)).alloc (.cells #[.int .i64 kd, .int .i64 ps, .int .i64 dv] 32)) (w.heap.size + 1) 32 #[.int .i64 kd, .int .i64 ps, .int .i64 dv]) := by
    have := CellsAt.new (w.alloc (.cells #[.slice a nF cap] 24)) 32 #[.int .i64 kd, .int .i64 ps, .int .i64 dv]
    rw [World.size_alloc] at this
    exact this
  have HF0 : Hid (IsFl ((w.alloc (.cells #[.slice a nF cap] 24)).alloc (.cells #[.int .i64 kd, .int .i64 ps, .int .i64 dv] 32)).heap.size ((w.alloc (.cells #[.slice a nF cap] 24)).alloc (.cells #[.int .i64 kd, .int .i64 ps, .int .i64 dv] 32)) (.slice a nF cap) F) := (hF.below HB0.out).more HB0.out.size
  clear hF
  go_enter Try.func5, Try.ntmps5
  go_wp2_with fail
  generalize ((w.alloc (.cells #[.slice a nF cap] 24)).alloc (.cells #[.int .i64 kd, .int .i64 ps, .int .i64 dv] 32)) = w0 at *
  refine (HBG.out _).mono ?_
  rintro e wc1 ⟨rfl, bb1⟩
  replace HB0 : Hid (Below w.heap.size w wc1) := HB0.out.trans (bb1.mono HB0.out.size)
  replace Hf : Hid (CellsAt wc1 (w.heap.size) 24 #[.slice a nF cap]) := Hf.out.below bb1 Hf.out.lt
  replace Hd : Hid (CellsAt wc1 (w.heap.size + 1) 32 #[.int .i64 kd, .int .i64 ps, .int .i64 dv]) := Hd.out.below bb1 Hd.out.lt
  replace HF0 : Hid (IsFl wc1.heap.size wc1 (.slice a nF cap) F) := (HF0.out.below bb1).more bb1.size
  clear bb1
  have pl_Hf_0 := Hf.out.cell 0
  simp at pl_Hf_0
  have pl_Hf_lt := Hf.out.lt
  have pl_Hd_0 := Hd.out.cell 0
  have pl_Hd_1 := Hd.out.cell 1
  have pl_Hd_2 := Hd.out.cell 2
  simp at pl_Hd_0 pl_Hd_1 pl_Hd_2
  have pl_Hd_lt := Hd.out.lt
  replace HB0 : Hid (Below w.heap.size w (wc1.alloc (.cells #[.int .i64 kd, .int .i64 ps, .int .i64 dv] 32))) := HB0.out.alloc HB0.out.size _
  replace Hf : Hid (CellsAt (wc1.alloc (.cells #[.int .i64 kd, .int .i64 ps, .int .i64 dv] 32)) (w.heap.size) 24 #[.slice a nF cap]) := Hf.out.kept (World.grownBy_alloc _ _ none) (by simp)
  replace Hd : Hid (CellsAt (wc1.alloc (.cells #[.int .i64 kd, .int .i64 ps, .int .i64 dv] 32)) (w.heap.size + 1) 32 #[.int .i64 kd, .int .i64 ps, .int .i64 dv]) := Hd.out.kept (World.grownBy_alloc _ _ none) (by simp)
  replace HF0 : Hid (IsFl (wc1.alloc (.cells #[.int .i64 kd, .int .i64 ps, .int .i64 dv] 32)).heap.size (wc1.alloc (.cells #[.int .i64 kd, .int .i64 ps, .int .i64 dv] 32)) (.slice a nF cap) F) := (HF0.out.below ((Below.refl _ _).alloc (Nat.le_refl _) _)).more (by simp)
  have HRw : Hid (RowOf 3 Deed.cell (wc1.alloc (.cells #[.int .i64 kd, .int .i64 ps, .int .i64 dv] 32)).heap.size (wc1.alloc (.cells #[.int .i64 kd, .int .i64 ps, .int .i64 dv] 32)) (.slice (some ⟨wc1.heap.size, 0, none⟩) 1 1) dl) := HROW.out _ _ (by simp)
  go_wp2_with fail
  clear pl_Hf_0 pl_Hf_lt pl_Hd_0 pl_Hd_1 pl_Hd_2 pl_Hd_lt
  generalize (wc1.alloc (.cells #[.int .i64 kd, .int .i64 ps, .int .i64 dv] 32)) = w2 at *
  refine (HDO.out _ _ _ HF0.out HRw.out).mono ?_
  rintro e wc3 ⟨⟨r1, rfl, hr1⟩, bb3⟩
  replace HB0 : Hid (Below w.heap.size w wc3) := HB0.out.trans (bb3.mono HB0.out.size)
  replace Hf : Hid (CellsAt wc3 (w.heap.size) 24 #[.slice a nF cap]) := Hf.out.below bb3 Hf.out.lt
  replace Hd : Hid (CellsAt wc3 (w.heap.size + 1) 32 #[.int .i64 kd, .int .i64 ps, .int .i64 dv]) := Hd.out.below bb3 Hd.out.lt
  replace HF0 : Hid (IsFl wc3.heap.size wc3 (.slice a nF cap) F) := (HF0.out.below bb3).more bb3.size
  replace HRw : Hid (RowOf 3 Deed.cell wc3.heap.size wc3 (.slice (some ⟨wc1.heap.size, 0, none⟩) 1 1) dl) := (HRw.out.below bb3).more bb3.size
  clear bb3
  clear HRw
  obtain ⟨⟨a1, c1, rfl, _, _⟩, _⟩ := id hr1
  have HA : Hid (IsFl wc3.heap.size wc3 (.slice a1 0 c1) []) := hr1
  clear hr1 HDO
  have pl_Hf_0 := Hf.out.cell 0
  simp at pl_Hf_0
  have pl_Hf_lt := Hf.out.lt
  have pl_Hd_0 := Hd.out.cell 0
  have pl_Hd_1 := Hd.out.cell 1
  have pl_Hd_2 := Hd.out.cell 2
  simp at pl_Hd_0 pl_Hd_1 pl_Hd_2
  have pl_Hd_lt := Hd.out.lt
  replace HB0 : Hid (Below w.heap.size w (wc3.alloc (.cells #[.slice a1 0 c1] 24))) := HB0.out.alloc HB0.out.size _
  replace Hf : Hid (CellsAt (wc3.alloc (.cells #[.slice a1 0 c1] 24)) (w.heap.size) 24 #[.slice a nF cap]) := Hf.out.kept (World.grownBy_alloc _ _ none) (by simp)
  replace Hd : Hid (CellsAt (wc3.alloc (.cells #[.slice a1 0 c1] 24)) (w.heap.size + 1) 32 #[.int .i64 kd, .int .i64 ps, .int .i64 dv]) := Hd.out.kept (World.grownBy_alloc _ _ none) (by simp)
  replace HF0 : Hid (IsFl (wc3.alloc (.cells #[.slice a1 0 c1] 24)).heap.size (wc3.alloc (.cells #[.slice a1 0 c1] 24)) (.slice a nF cap) F) := (HF0.out.below ((Below.refl _ _).alloc (Nat.le_refl _) _)).more (by simp)
  replace HA : Hid (IsFl (wc3.alloc (.cells #[.slice a1 0 c1] 24)).heap.size (wc3.alloc (.cells #[.slice a1 0 c1] 24)) (.slice a1 0 c1) []) := (HA.out.below ((Below.refl _ _).alloc (Nat.le_refl _) _)).more (by simp)
  have H7 : Hid (CellsAt (wc3.alloc (.cells #[.slice a1 0 c1] 24)) (wc3.heap.size) 24 #[.slice a1 0 c1]) := by first | exact CellsAt.new _ _ _ | (have := CellsAt.new wc3 24 #[.slice a1 0 c1]; simp only [World.size_alloc] at this; exact this)
  go_wp2_with fail
  clear pl_Hf_0 pl_Hf_lt pl_Hd_0 pl_Hd_1 pl_Hd_2 pl_Hd_lt
  generalize (wc3.alloc (.cells #[.slice a1 0 c1] 24)) = w4 at *
  refine (HTO.out _ _ HF0.out).mono ?_
  rintro e wc5 ⟨⟨r2, rfl, hr2⟩, bb5⟩
  replace HB0 : Hid (Below w.heap.size w wc5) := HB0.out.trans (bb5.mono HB0.out.size)
  replace Hf : Hid (CellsAt wc5 (w.heap.size) 24 #[.slice a nF cap]) := Hf.out.below bb5 Hf.out.lt
  replace Hd : Hid (CellsAt wc5 (w.heap.size + 1) 32 #[.int .i64 kd, .int .i64 ps, .int .i64 dv]) := Hd.out.below bb5 Hd.out.lt
  replace HF0 : Hid (IsFl wc5.heap.size wc5 (.slice a nF cap) F) := (HF0.out.below bb5).more bb5.size
  replace HA : Hid (IsFl wc5.heap.size wc5 (.slice a1 0 c1) []) := (HA.out.below bb5).more bb5.size
  replace H7 : Hid (CellsAt wc5 (wc3.heap.size) 24 #[.slice a1 0 c1]) := H7.out.below bb5 H7.out.lt
  clear bb5
  obtain ⟨⟨a2, c2, rfl, _, _⟩, _⟩ := id hr2
  clear hr2 HTO
  have pl_H7_0 := H7.out.cell 0
  simp at pl_H7_0
  have pl_H7_lt := H7.out.lt
  have HBZ : Hid (Below w.heap.size w (wc5.alloc (.cells #[.slice a2 0 c2] 24))) := HB0.out.alloc HB0.out.size _
  clear HB0 Hf Hd HF0 H7 HA HROW
  go_wp2
  go_ret
  exact ⟨rfl, HBZ.out⟩


set_option maxHeartbeats 8000000 in
theorem walk_good (F : List ByteArray) (c : Value) (d : Deed) (p : ByteArray) (w : World) (hF : IsFl w.heap.size w c F) (hp : p.size ≤ 140737488351232) (hE : chkDeeds F [d] = 0) :
    Calls Try.prog 5 #[.agg #[c], d.value, .string p] w fun e w' => e = .returned (.bool true) ∧ Below w.heap.size w w' := by
  have HBG : Hid (∀ W, Calls Try.prog 7 #[] W fun e w' => e = .returned (.bool true) ∧ Below W.heap.size W w') := flashBegun_any
  obtain ⟨hG, hGA, hGB, hEB, hAB, -⟩ := facts p hE
  have HDO : Hid (∀ v vl W, IsFl W.heap.size W v (F) → RowOf 3 Deed.cell W.heap.size W vl [d] → Calls Try.prog 8 #[.agg #[v], vl] W fun e w' => (∃ r, e = .returned (.tuple #[.agg #[r], .int .i64 0]) ∧ IsFl w'.heap.size w' r (doneB F d)) ∧ Below W.heap.size W w') := fun v vl W h1 h2 => by
    have := do_doc (F) v [d] vl W h1 h2
    rw [doRes_one hE, hE] at this
    exact this
  have HTO : Hid (∀ v W, IsFl W.heap.size W v (F) → Calls Try.prog 12 #[.agg #[v], .agg #[.int .i64 d.kind, .int .i64 d.pos, .int .i64 d.val], .string p] W fun e w' => (∃ r, e = .returned (.tuple #[.agg #[r], .int .i64 0]) ∧ IsFl w'.heap.size w' r (tornB F d p)) ∧ Below W.heap.size W w') := fun v W h1 => by
    have := torn_doc (F) v d p W h1 (by omega)
    rw [tornRes_one hE, hE] at this
    exact this
  have HDB : Hid (∀ v vl W, IsFl W.heap.size W v (tornB F d p) → RowOf 3 Deed.cell W.heap.size W vl [d] → Calls Try.prog 8 #[.agg #[v], vl] W fun e w' => (∃ r, e = .returned (.tuple #[.agg #[r], .int .i64 0]) ∧ IsFl w'.heap.size w' r (doneB F d)) ∧ Below W.heap.size W w') := fun v vl W h1 h2 => by
    have := do_doc (tornB F d p) v [d] vl W h1 h2
    rw [doRes_one hEB, hEB, hAB] at this
    exact this
  have HROW : Hid (∀ (W : World) n, n = W.heap.size → RowOf 3 Deed.cell (W.alloc (.cells #[.int .i64 d.kind, .int .i64 d.pos, .int .i64 d.val] 32)).heap.size (W.alloc (.cells #[.int .i64 d.kind, .int .i64 d.pos, .int .i64 d.val] 32)) (.slice (some ⟨n, 0, none⟩) 1 1) [d]) := fun W n hn => by
    subst hn
    exact rowOf_cells (C := deedC) (cells := Deed.cell) (sz := 3) (fun _ => rfl) deedC_at (CellsAt.new W 32 (deedC d).toArray) [d] (show 1 ≤ 255 by decide) 1 rfl
  have HSF : Hid (∀ v v' W, IsFl W.heap.size W v (doneB F d) → IsFl W.heap.size W v' (doneB F d) → Calls Try.prog 9 #[.agg #[v], .agg #[v']] W fun e w' => e = .returned (.bool true) ∧ Below W.heap.size W w') := fun v v' W h1 h2 => by
    have := sameFlash_any _ _ v v' W h1.1 h2.1
    rw [sameB_self] at this
    exact this
  have HX : Hid (∀ v W, IsFl W.heap.size W v F → Calls Try.prog 16 #[.agg #[v]] W fun e w' => e = .returned (.string ⟨(joinM F).toArray⟩) ∧ Below W.heap.size W w') := fun v W h => rAllOf_any F v W h.1 hG.chk
  have HY : Hid (∀ v W, IsFl W.heap.size W v (doneB F d) → Calls Try.prog 16 #[.agg #[v]] W fun e w' => e = .returned (.string ⟨(joinM (doneB F d)).toArray⟩) ∧ Below W.heap.size W w') := fun v W h => rAllOf_any _ v W h.1 hGA.chk
  have HZ : Hid (∀ v W, IsFl W.heap.size W v (tornB F d p) → Calls Try.prog 16 #[.agg #[v]] W fun e w' => e = .returned (.string ⟨(joinM (tornB F d p)).toArray⟩) ∧ Below W.heap.size W w') := fun v W h => rAllOf_any _ v W h.1 hGB.chk
  have HLAW : Hid (∀ (j : Nat), j < (joinM F).length → ∃ x y z : UInt8, (joinM F)[j]? = some x ∧ (joinM (doneB F d))[j]? = some y ∧ (joinM (tornB F d p))[j]? = some z ∧ _) := fun j hj => bytes_law p hE j hj
  have lx : (⟨(joinM F).toArray⟩ : ByteArray).size = F.length * 128 := by rw [size_mk, joinM_length hG.2.2.2]
  have ly : (⟨(joinM (doneB F d)).toArray⟩ : ByteArray).size = F.length * 128 := by rw [size_mk, joinM_length hGA.2.2.2, hGA.1]
  have lz : (⟨(joinM (tornB F d p)).toArray⟩ : ByteArray).size = F.length * 128 := by rw [size_mk, joinM_length hGB.2.2.2, hGB.1]
  have hbig : F.length * 128 ≤ 4096 := by have := hG.2.2.1; omega
  have HIX : Hid (∀ (c : List UInt8) (j : Nat) (x : UInt8) (hj : j < (⟨c.toArray⟩ : ByteArray).size), c[j]? = some x → ((⟨c.toArray⟩ : ByteArray)[j].toNat : Int) = (x.toNat : Int)) := fun c j x hj h => by
    obtain ⟨h1, h2⟩ := List.getElem?_eq_some_iff.1 h
    rw [← h2]
    rfl
  have hln : (joinM F).length = F.length * 128 := joinM_length hG.2.2.2
  rw [hln] at HLAW
  obtain ⟨⟨a, cap, rfl, _, _⟩, _⟩ := id hF
  clear hE hG hGA hGB hEB hAB hln
  generalize F.length * 128 = N at *
  generalize F.length = nF at *
  generalize doneB F d = A at *
  generalize tornB F d p = B at *
  generalize joinM F = jX at *
  generalize joinM A = jY at *
  generalize joinM B = jZ at *
  obtain ⟨kd, ps, dv⟩ := d
  unfold Deed.value
  dsimp only at *
  generalize hdl : [(⟨kd, ps, dv⟩ : Deed)] = dl at *
  clear hdl
  have HB0 : Hid (Below w.heap.size w ((w.alloc (.cells #[.slice a nF cap] 24)).alloc (.cells #[.int .i64 kd, .int .i64 ps, .int .i64 dv] 32))) := ((Below.refl _ _).alloc (Nat.le_refl _) _).alloc (by simp) _
  have Hf : Hid (CellsAt ((w.alloc (.cells #[.slice a nF cap] 24)).alloc (.cells #[.int .i64 kd, .int .i64 ps, .int .i64 dv] 32)) (w.heap.size) 24 #[.slice a nF cap]) := (CellsAt.new w 24 #[.slice a nF cap]).kept (World.grownBy_alloc _ _ none) (by simp)
  have Hd : Hid (CellsAt ((w.alloc (.cells #[.slice a nF cap] 24)).alloc (.cells #[.int .i64 kd, .int .i64 ps, .int .i64 dv] 32)) (w.heap.size + 1) 32 #[.int .i64 kd, .int .i64 ps, .int .i64 dv]) := by
    have := CellsAt.new (w.alloc (.cells #[.slice a nF cap] 24)) 32 #[.int .i64 kd, .int .i64 ps, .int .i64 dv]
    rw [World.size_alloc] at this
    exact this
  have HF0 : Hid (IsFl ((w.alloc (.cells #[.slice a nF cap] 24)).alloc (.cells #[.int .i64 kd, .int .i64 ps, .int .i64 dv] 32)).heap.size ((w.alloc (.cells #[.slice a nF cap] 24)).alloc (.cells #[.int .i64 kd, .int .i64 ps, .int .i64 dv] 32)) (.slice a nF cap) F) := (hF.below HB0.out).more HB0.out.size
  clear hF
  go_enter Try.func5, Try.ntmps5
  go_wp2_with fail
  generalize ((w.alloc (.cells #[.slice a nF cap] 24)).alloc (.cells #[.int .i64 kd, .int .i64 ps, .int .i64 dv] 32)) = w0 at *
  refine (HBG.out _).mono ?_
  rintro e wc1 ⟨rfl, bb1⟩
  replace HB0 : Hid (Below w.heap.size w wc1) := HB0.out.trans (bb1.mono HB0.out.size)
  replace Hf : Hid (CellsAt wc1 (w.heap.size) 24 #[.slice a nF cap]) := Hf.out.below bb1 Hf.out.lt
  replace Hd : Hid (CellsAt wc1 (w.heap.size + 1) 32 #[.int .i64 kd, .int .i64 ps, .int .i64 dv]) := Hd.out.below bb1 Hd.out.lt
  replace HF0 : Hid (IsFl wc1.heap.size wc1 (.slice a nF cap) F) := (HF0.out.below bb1).more bb1.size
  clear bb1
  have pl_Hf_0 := Hf.out.cell 0
  simp at pl_Hf_0
  have pl_Hf_lt := Hf.out.lt
  have pl_Hd_0 := Hd.out.cell 0
  have pl_Hd_1 := Hd.out.cell 1
  have pl_Hd_2 := Hd.out.cell 2
  simp at pl_Hd_0 pl_Hd_1 pl_Hd_2
  have pl_Hd_lt := Hd.out.lt
  replace HB0 : Hid (Below w.heap.size w (wc1.alloc (.cells #[.int .i64 kd, .int .i64 ps, .int .i64 dv] 32))) := HB0.out.alloc HB0.out.size _
  replace Hf : Hid (CellsAt (wc1.alloc (.cells #[.int .i64 kd, .int .i64 ps, .int .i64 dv] 32)) (w.heap.size) 24 #[.slice a nF cap]) := Hf.out.kept (World.grownBy_alloc _ _ none) (by simp)
  replace Hd : Hid (CellsAt (wc1.alloc (.cells #[.int .i64 kd, .int .i64 ps, .int .i64 dv] 32)) (w.heap.size + 1) 32 #[.int .i64 kd, .int .i64 ps, .int .i64 dv]) := Hd.out.kept (World.grownBy_alloc _ _ none) (by simp)
  replace HF0 : Hid (IsFl (wc1.alloc (.cells #[.int .i64 kd, .int .i64 ps, .int .i64 dv] 32)).heap.size (wc1.alloc (.cells #[.int .i64 kd, .int .i64 ps, .int .i64 dv] 32)) (.slice a nF cap) F) := (HF0.out.below ((Below.refl _ _).alloc (Nat.le_refl _) _)).more (by simp)
  have HRw : Hid (RowOf 3 Deed.cell (wc1.alloc (.cells #[.int .i64 kd, .int .i64 ps, .int .i64 dv] 32)).heap.size (wc1.alloc (.cells #[.int .i64 kd, .int .i64 ps, .int .i64 dv] 32)) (.slice (some ⟨wc1.heap.size, 0, none⟩) 1 1) dl) := HROW.out _ _ (by simp)
  go_wp2_with fail
  clear pl_Hf_0 pl_Hf_lt pl_Hd_0 pl_Hd_1 pl_Hd_2 pl_Hd_lt
  generalize (wc1.alloc (.cells #[.int .i64 kd, .int .i64 ps, .int .i64 dv] 32)) = w2 at *
  refine (HDO.out _ _ _ HF0.out HRw.out).mono ?_
  rintro e wc3 ⟨⟨r1, rfl, hr1⟩, bb3⟩
  replace HB0 : Hid (Below w.heap.size w wc3) := HB0.out.trans (bb3.mono HB0.out.size)
  replace Hf : Hid (CellsAt wc3 (w.heap.size) 24 #[.slice a nF cap]) := Hf.out.below bb3 Hf.out.lt
  replace Hd : Hid (CellsAt wc3 (w.heap.size + 1) 32 #[.int .i64 kd, .int .i64 ps, .int .i64 dv]) := Hd.out.below bb3 Hd.out.lt
  replace HF0 : Hid (IsFl wc3.heap.size wc3 (.slice a nF cap) F) := (HF0.out.below bb3).more bb3.size
  replace HRw : Hid (RowOf 3 Deed.cell wc3.heap.size wc3 (.slice (some ⟨wc1.heap.size, 0, none⟩) 1 1) dl) := (HRw.out.below bb3).more bb3.size
  clear bb3
  clear HRw
  obtain ⟨⟨a1, c1, rfl, _, _⟩, _⟩ := id hr1
  have HA : Hid (IsFl wc3.heap.size wc3 (.slice a1 A.length c1) A) := hr1
  clear hr1 HDO
  have pl_Hf_0 := Hf.out.cell 0
  simp at pl_Hf_0
  have pl_Hf_lt := Hf.out.lt
  have pl_Hd_0 := Hd.out.cell 0
  have pl_Hd_1 := Hd.out.cell 1
  have pl_Hd_2 := Hd.out.cell 2
  simp at pl_Hd_0 pl_Hd_1 pl_Hd_2
  have pl_Hd_lt := Hd.out.lt
  replace HB0 : Hid (Below w.heap.size w (wc3.alloc (.cells #[.slice a1 A.length c1] 24))) := HB0.out.alloc HB0.out.size _
  replace Hf : Hid (CellsAt (wc3.alloc (.cells #[.slice a1 A.length c1] 24)) (w.heap.size) 24 #[.slice a nF cap]) := Hf.out.kept (World.grownBy_alloc _ _ none) (by simp)
  replace Hd : Hid (CellsAt (wc3.alloc (.cells #[.slice a1 A.length c1] 24)) (w.heap.size + 1) 32 #[.int .i64 kd, .int .i64 ps, .int .i64 dv]) := Hd.out.kept (World.grownBy_alloc _ _ none) (by simp)
  replace HF0 : Hid (IsFl (wc3.alloc (.cells #[.slice a1 A.length c1] 24)).heap.size (wc3.alloc (.cells #[.slice a1 A.length c1] 24)) (.slice a nF cap) F) := (HF0.out.below ((Below.refl _ _).alloc (Nat.le_refl _) _)).more (by simp)
  replace HA : Hid (IsFl (wc3.alloc (.cells #[.slice a1 A.length c1] 24)).heap.size (wc3.alloc (.cells #[.slice a1 A.length c1] 24)) (.slice a1 A.length c1) A) := (HA.out.below ((Below.refl _ _).alloc (Nat.le_refl _) _)).more (by simp)
  have H7 : Hid (CellsAt (wc3.alloc (.cells #[.slice a1 A.length c1] 24)) (wc3.heap.size) 24 #[.slice a1 A.length c1]) := by first | exact CellsAt.new _ _ _ | (have := CellsAt.new wc3 24 #[.slice a1 A.length c1]; simp only [World.size_alloc] at this; exact this)
  go_wp2_with fail
  clear pl_Hf_0 pl_Hf_lt pl_Hd_0 pl_Hd_1 pl_Hd_2 pl_Hd_lt
  generalize (wc3.alloc (.cells #[.slice a1 A.length c1] 24)) = w4 at *
  refine (HTO.out _ _ HF0.out).mono ?_
  rintro e wc5 ⟨⟨r2, rfl, hr2⟩, bb5⟩
  replace HB0 : Hid (Below w.heap.size w wc5) := HB0.out.trans (bb5.mono HB0.out.size)
  replace Hf : Hid (CellsAt wc5 (w.heap.size) 24 #[.slice a nF cap]) := Hf.out.below bb5 Hf.out.lt
  replace Hd : Hid (CellsAt wc5 (w.heap.size + 1) 32 #[.int .i64 kd, .int .i64 ps, .int .i64 dv]) := Hd.out.below bb5 Hd.out.lt
  replace HF0 : Hid (IsFl wc5.heap.size wc5 (.slice a nF cap) F) := (HF0.out.below bb5).more bb5.size
  replace HA : Hid (IsFl wc5.heap.size wc5 (.slice a1 A.length c1) A) := (HA.out.below bb5).more bb5.size
  replace H7 : Hid (CellsAt wc5 (wc3.heap.size) 24 #[.slice a1 A.length c1]) := H7.out.below bb5 H7.out.lt
  clear bb5
  obtain ⟨⟨a2, c2, rfl, _, _⟩, _⟩ := id hr2
  have HBf : Hid (IsFl wc5.heap.size wc5 (.slice a2 B.length c2) B) := hr2
  clear hr2 HTO
  have pl_Hd_0 := Hd.out.cell 0
  have pl_Hd_1 := Hd.out.cell 1
  have pl_Hd_2 := Hd.out.cell 2
  simp at pl_Hd_0 pl_Hd_1 pl_Hd_2
  have pl_Hd_lt := Hd.out.lt
  replace HB0 : Hid (Below w.heap.size w (wc5.alloc (.cells #[.slice a2 B.length c2] 24))) := HB0.out.alloc HB0.out.size _
  replace Hf : Hid (CellsAt (wc5.alloc (.cells #[.slice a2 B.length c2] 24)) (w.heap.size) 24 #[.slice a nF cap]) := Hf.out.kept (World.grownBy_alloc _ _ none) (by simp)
  replace Hd : Hid (CellsAt (wc5.alloc (.cells #[.slice a2 B.length c2] 24)) (w.heap.size + 1) 32 #[.int .i64 kd, .int .i64 ps, .int .i64 dv]) := Hd.out.kept (World.grownBy_alloc _ _ none) (by simp)
  replace HF0 : Hid (IsFl (wc5.alloc (.cells #[.slice a2 B.length c2] 24)).heap.size (wc5.alloc (.cells #[.slice a2 B.length c2] 24)) (.slice a nF cap) F) := (HF0.out.below ((Below.refl _ _).alloc (Nat.le_refl _) _)).more (by simp)
  replace HA : Hid (IsFl (wc5.alloc (.cells #[.slice a2 B.length c2] 24)).heap.size (wc5.alloc (.cells #[.slice a2 B.length c2] 24)) (.slice a1 A.length c1) A) := (HA.out.below ((Below.refl _ _).alloc (Nat.le_refl _) _)).more (by simp)
  replace H7 : Hid (CellsAt (wc5.alloc (.cells #[.slice a2 B.length c2] 24)) (wc3.heap.size) 24 #[.slice a1 A.length c1]) := H7.out.kept (World.grownBy_alloc _ _ none) (by simp)
  replace HBf : Hid (IsFl (wc5.alloc (.cells #[.slice a2 B.length c2] 24)).heap.size (wc5.alloc (.cells #[.slice a2 B.length c2] 24)) (.slice a2 B.length c2) B) := (HBf.out.below ((Below.refl _ _).alloc (Nat.le_refl _) _)).more (by simp)
  have H9 : Hid (CellsAt (wc5.alloc (.cells #[.slice a2 B.length c2] 24)) (wc5.heap.size) 24 #[.slice a2 B.length c2]) := by first | exact CellsAt.new _ _ _ | (have := CellsAt.new wc5 24 #[.slice a2 B.length c2]; simp only [World.size_alloc] at this; exact this)
  replace HB0 : Hid (Below w.heap.size w ((wc5.alloc (.cells #[.slice a2 B.length c2] 24)).alloc (.cells #[.int .i64 kd, .int .i64 ps, .int .i64 dv] 32))) := HB0.out.alloc HB0.out.size _
  replace Hf : Hid (CellsAt ((wc5.alloc (.cells #[.slice a2 B.length c2] 24)).alloc (.cells #[.int .i64 kd, .int .i64 ps, .int .i64 dv] 32)) (w.heap.size) 24 #[.slice a nF cap]) := Hf.out.kept (World.grownBy_alloc _ _ none) (by simp)
  replace Hd : Hid (CellsAt ((wc5.alloc (.cells #[.slice a2 B.length c2] 24)).alloc (.cells #[.int .i64 kd, .int .i64 ps, .int .i64 dv] 32)) (w.heap.size + 1) 32 #[.int .i64 kd, .int .i64 ps, .int .i64 dv]) := Hd.out.kept (World.grownBy_alloc _ _ none) (by simp)
  replace HF0 : Hid (IsFl ((wc5.alloc (.cells #[.slice a2 B.length c2] 24)).alloc (.cells #[.int .i64 kd, .int .i64 ps, .int .i64 dv] 32)).heap.size ((wc5.alloc (.cells #[.slice a2 B.length c2] 24)).alloc (.cells #[.int .i64 kd, .int .i64 ps, .int .i64 dv] 32)) (.slice a nF cap) F) := (HF0.out.below ((Below.refl _ _).alloc (Nat.le_refl _) _)).more (by simp)
  replace HA : Hid (IsFl ((wc5.alloc (.cells #[.slice a2 B.length c2] 24)).alloc (.cells #[.int .i64 kd, .int .i64 ps, .int .i64 dv] 32)).heap.size ((wc5.alloc (.cells #[.slice a2 B.length c2] 24)).alloc (.cells #[.int .i64 kd, .int .i64 ps, .int .i64 dv] 32)) (.slice a1 A.length c1) A) := (HA.out.below ((Below.refl _ _).alloc (Nat.le_refl _) _)).more (by simp)
  replace H7 : Hid (CellsAt ((wc5.alloc (.cells #[.slice a2 B.length c2] 24)).alloc (.cells #[.int .i64 kd, .int .i64 ps, .int .i64 dv] 32)) (wc3.heap.size) 24 #[.slice a1 A.length c1]) := H7.out.kept (World.grownBy_alloc _ _ none) (by simp)
  replace HBf : Hid (IsFl ((wc5.alloc (.cells #[.slice a2 B.length c2] 24)).alloc (.cells #[.int .i64 kd, .int .i64 ps, .int .i64 dv] 32)).heap.size ((wc5.alloc (.cells #[.slice a2 B.length c2] 24)).alloc (.cells #[.int .i64 kd, .int .i64 ps, .int .i64 dv] 32)) (.slice a2 B.length c2) B) := (HBf.out.below ((Below.refl _ _).alloc (Nat.le_refl _) _)).more (by simp)
  replace H9 : Hid (CellsAt ((wc5.alloc (.cells #[.slice a2 B.length c2] 24)).alloc (.cells #[.int .i64 kd, .int .i64 ps, .int .i64 dv] 32)) (wc5.heap.size) 24 #[.slice a2 B.length c2]) := H9.out.kept (World.grownBy_alloc _ _ none) (by simp)
  have HRw : Hid (RowOf 3 Deed.cell ((wc5.alloc (.cells #[.slice a2 B.length c2] 24)).alloc (.cells #[.int .i64 kd, .int .i64 ps, .int .i64 dv] 32)).heap.size ((wc5.alloc (.cells #[.slice a2 B.length c2] 24)).alloc (.cells #[.int .i64 kd, .int .i64 ps, .int .i64 dv] 32)) (.slice (some ⟨wc5.heap.size + 1, 0, none⟩) 1 1) dl) := HROW.out _ _ (by simp)
  go_wp2_with fail
  clear pl_Hd_0 pl_Hd_1 pl_Hd_2 pl_Hd_lt
  generalize ((wc5.alloc (.cells #[.slice a2 B.length c2] 24)).alloc (.cells #[.int .i64 kd, .int .i64 ps, .int .i64 dv] 32)) = w6 at *
  refine (HDB.out _ _ _ HBf.out HRw.out).mono ?_
  rintro e wc7 ⟨⟨r3, rfl, hr3⟩, bb7⟩
  replace HB0 : Hid (Below w.heap.size w wc7) := HB0.out.trans (bb7.mono HB0.out.size)
  replace Hf : Hid (CellsAt wc7 (w.heap.size) 24 #[.slice a nF cap]) := Hf.out.below bb7 Hf.out.lt
  replace Hd : Hid (CellsAt wc7 (w.heap.size + 1) 32 #[.int .i64 kd, .int .i64 ps, .int .i64 dv]) := Hd.out.below bb7 Hd.out.lt
  replace HF0 : Hid (IsFl wc7.heap.size wc7 (.slice a nF cap) F) := (HF0.out.below bb7).more bb7.size
  replace HA : Hid (IsFl wc7.heap.size wc7 (.slice a1 A.length c1) A) := (HA.out.below bb7).more bb7.size
  replace H7 : Hid (CellsAt wc7 (wc3.heap.size) 24 #[.slice a1 A.length c1]) := H7.out.below bb7 H7.out.lt
  replace HBf : Hid (IsFl wc7.heap.size wc7 (.slice a2 B.length c2) B) := (HBf.out.below bb7).more bb7.size
  replace H9 : Hid (CellsAt wc7 (wc5.heap.size) 24 #[.slice a2 B.length c2]) := H9.out.below bb7 H9.out.lt
  replace HRw : Hid (RowOf 3 Deed.cell wc7.heap.size wc7 (.slice (some ⟨wc5.heap.size + 1, 0, none⟩) 1 1) dl) := (HRw.out.below bb7).more bb7.size
  clear bb7
  clear HRw
  obtain ⟨⟨a3, c3, rfl, _, _⟩, _⟩ := id hr3
  have HCf : Hid (IsFl wc7.heap.size wc7 (.slice a3 A.length c3) A) := hr3
  clear hr3 HDB HROW
  have pl_H7_0 := H7.out.cell 0
  simp at pl_H7_0
  have pl_H7_lt := H7.out.lt
  replace HB0 : Hid (Below w.heap.size w (wc7.alloc (.cells #[.slice a3 A.length c3] 24))) := HB0.out.alloc HB0.out.size _
  replace Hf : Hid (CellsAt (wc7.alloc (.cells #[.slice a3 A.length c3] 24)) (w.heap.size) 24 #[.slice a nF cap]) := Hf.out.kept (World.grownBy_alloc _ _ none) (by simp)
  replace Hd : Hid (CellsAt (wc7.alloc (.cells #[.slice a3 A.length c3] 24)) (w.heap.size + 1) 32 #[.int .i64 kd, .int .i64 ps, .int .i64 dv]) := Hd.out.kept (World.grownBy_alloc _ _ none) (by simp)
  replace HF0 : Hid (IsFl (wc7.alloc (.cells #[.slice a3 A.length c3] 24)).heap.size (wc7.alloc (.cells #[.slice a3 A.length c3] 24)) (.slice a nF cap) F) := (HF0.out.below ((Below.refl _ _).alloc (Nat.le_refl _) _)).more (by simp)
  replace HA : Hid (IsFl (wc7.alloc (.cells #[.slice a3 A.length c3] 24)).heap.size (wc7.alloc (.cells #[.slice a3 A.length c3] 24)) (.slice a1 A.length c1) A) := (HA.out.below ((Below.refl _ _).alloc (Nat.le_refl _) _)).more (by simp)
  replace H7 : Hid (CellsAt (wc7.alloc (.cells #[.slice a3 A.length c3] 24)) (wc3.heap.size) 24 #[.slice a1 A.length c1]) := H7.out.kept (World.grownBy_alloc _ _ none) (by simp)
  replace HBf : Hid (IsFl (wc7.alloc (.cells #[.slice a3 A.length c3] 24)).heap.size (wc7.alloc (.cells #[.slice a3 A.length c3] 24)) (.slice a2 B.length c2) B) := (HBf.out.below ((Below.refl _ _).alloc (Nat.le_refl _) _)).more (by simp)
  replace H9 : Hid (CellsAt (wc7.alloc (.cells #[.slice a3 A.length c3] 24)) (wc5.heap.size) 24 #[.slice a2 B.length c2]) := H9.out.kept (World.grownBy_alloc _ _ none) (by simp)
  replace HCf : Hid (IsFl (wc7.alloc (.cells #[.slice a3 A.length c3] 24)).heap.size (wc7.alloc (.cells #[.slice a3 A.length c3] 24)) (.slice a3 A.length c3) A) := (HCf.out.below ((Below.refl _ _).alloc (Nat.le_refl _) _)).more (by simp)
  have H11 : Hid (CellsAt (wc7.alloc (.cells #[.slice a3 A.length c3] 24)) (wc7.heap.size) 24 #[.slice a3 A.length c3]) := by first | exact CellsAt.new _ _ _ | (have := CellsAt.new wc7 24 #[.slice a3 A.length c3]; simp only [World.size_alloc] at this; exact this)
  go_wp2_with fail
  clear pl_H7_0 pl_H7_lt
  generalize (wc7.alloc (.cells #[.slice a3 A.length c3] 24)) = w8 at *
  refine (HSF.out _ _ _ HA.out HCf.out).mono ?_
  rintro e wc9 ⟨rfl, bb9⟩
  replace HB0 : Hid (Below w.heap.size w wc9) := HB0.out.trans (bb9.mono HB0.out.size)
  replace Hf : Hid (CellsAt wc9 (w.heap.size) 24 #[.slice a nF cap]) := Hf.out.below bb9 Hf.out.lt
  replace Hd : Hid (CellsAt wc9 (w.heap.size + 1) 32 #[.int .i64 kd, .int .i64 ps, .int .i64 dv]) := Hd.out.below bb9 Hd.out.lt
  replace HF0 : Hid (IsFl wc9.heap.size wc9 (.slice a nF cap) F) := (HF0.out.below bb9).more bb9.size
  replace HA : Hid (IsFl wc9.heap.size wc9 (.slice a1 A.length c1) A) := (HA.out.below bb9).more bb9.size
  replace H7 : Hid (CellsAt wc9 (wc3.heap.size) 24 #[.slice a1 A.length c1]) := H7.out.below bb9 H7.out.lt
  replace HBf : Hid (IsFl wc9.heap.size wc9 (.slice a2 B.length c2) B) := (HBf.out.below bb9).more bb9.size
  replace H9 : Hid (CellsAt wc9 (wc5.heap.size) 24 #[.slice a2 B.length c2]) := H9.out.below bb9 H9.out.lt
  replace HCf : Hid (IsFl wc9.heap.size wc9 (.slice a3 A.length c3) A) := (HCf.out.below bb9).more bb9.size
  replace H11 : Hid (CellsAt wc9 (wc7.heap.size) 24 #[.slice a3 A.length c3]) := H11.out.below bb9 H11.out.lt
  clear bb9
  clear HCf H11
  clear HSF
  have pl_Hf_0 := Hf.out.cell 0
  simp at pl_Hf_0
  have pl_Hf_lt := Hf.out.lt
  have pl_H7_0 := H7.out.cell 0
  simp at pl_H7_0
  have pl_H7_lt := H7.out.lt
  have pl_H9_0 := H9.out.cell 0
  simp at pl_H9_0
  have pl_H9_lt := H9.out.lt
  go_wp2_with fail
  have rf0 := cell_regrown pl_Hf_0
  have rf7 := cell_regrown pl_H7_0
  have rf9 := cell_regrown pl_H9_0
  have HQX : Hid (∀ d os, _) := fun d os => (fun W' (hb : Below wc9.heap.size wc9 W') => HX.out _ W' ((HF0.out.below hb).more hb.size)) _ (below_regrown wc9 d os)
  have HQY : Hid (∀ d os, _) := fun d os => (fun W' (hb : Below wc9.heap.size wc9 W') => HY.out _ W' ((HA.out.below hb).more hb.size)) _ (below_regrown wc9 d os)
  have HQZ : Hid (∀ d os, _) := fun d os => (fun W' (hb : Below wc9.heap.size wc9 W') => HZ.out _ W' ((HBf.out.below hb).more hb.size)) _ (below_regrown wc9 d os)
  clear pl_Hf_0 pl_Hf_lt pl_H7_0 pl_H7_lt pl_H9_0 pl_H9_lt
  refine wp_region_quiet_below (by kernel_rfl) (by kernel_rfl) ?_
  repeat (quiet_step (first | (go_at_call_of 16 (Value.agg #[.slice a nF cap]); go_must (exact Calls.regrown_of (HQX.out _ _))) | (go_at_call_of 16 (Value.agg #[.slice a1 A.length c1]); go_must (exact Calls.regrown_of (HQY.out _ _))) | (go_at_call_of 16 (Value.agg #[.slice a2 B.length c2]); go_must (exact Calls.regrown_of (HQZ.out _ _)))))
  refine wpQuiet_nil ?_
  intro w9 hw9
  obtain ⟨⟨dq, osq⟩, hw9⟩ := hw9
  have b9 := below_regrown wc9 dq osq
  rw [← hw9] at b9
  replace HB0 : Hid (Below w.heap.size w w9) := HB0.out.trans (b9.mono HB0.out.size)
  replace Hf : Hid (CellsAt w9 (w.heap.size) 24 #[.slice a nF cap]) := Hf.out.below b9 Hf.out.lt
  replace Hd : Hid (CellsAt w9 (w.heap.size + 1) 32 #[.int .i64 kd, .int .i64 ps, .int .i64 dv]) := Hd.out.below b9 Hd.out.lt
  replace HF0 : Hid (IsFl w9.heap.size w9 (.slice a nF cap) F) := (HF0.out.below b9).more b9.size
  replace HA : Hid (IsFl w9.heap.size w9 (.slice a1 A.length c1) A) := (HA.out.below b9).more b9.size
  replace H7 : Hid (CellsAt w9 (wc3.heap.size) 24 #[.slice a1 A.length c1]) := H7.out.below b9 H7.out.lt
  replace HBf : Hid (IsFl w9.heap.size w9 (.slice a2 B.length c2) B) := (HBf.out.below b9).more b9.size
  replace H9 : Hid (CellsAt w9 (wc5.heap.size) 24 #[.slice a2 B.length c2]) := H9.out.below b9 H9.out.lt
  clear hw9 b9 rf0 rf7 rf9 HQX HQY HQZ HX HY HZ
  clear Hf HF0 HA H7 HBf H9
  have HXX : Hid (∀ (j : Nat) (x : UInt8) (hj : j < (⟨jX.toArray⟩ : ByteArray).size), jX[j]? = some x → ((⟨jX.toArray⟩ : ByteArray)[j].toNat : Int) = (x.toNat : Int)) := HIX.out jX
  have HYY : Hid (∀ (j : Nat) (x : UInt8) (hj : j < (⟨jY.toArray⟩ : ByteArray).size), jY[j]? = some x → ((⟨jY.toArray⟩ : ByteArray)[j].toNat : Int) = (x.toNat : Int)) := HIX.out jY
  have HZZ : Hid (∀ (j : Nat) (x : UInt8) (hj : j < (⟨jZ.toArray⟩ : ByteArray).size), jZ[j]? = some x → ((⟨jZ.toArray⟩ : ByteArray)[j].toNat : Int) = (x.toNat : Int)) := HIX.out jZ
  clear HIX
  generalize (⟨jX.toArray⟩ : ByteArray) = sX at *
  generalize (⟨jY.toArray⟩ : ByteArray) = sY at *
  generalize (⟨jZ.toArray⟩ : ByteArray) = sZ at *
  go_wp2
  go_loopw [16, 17] (fun i _ wr => ∃ (k : Nat), k ≤ N ∧ i = .int .i64 k ∧ Hid (CellsAt wr (w.heap.size + 1) 32 #[.int .i64 kd, .int .i64 ps, .int .i64 dv]) ∧ Hid (Below w.heap.size w wr)) (fun i _ _ => N - (intOf i).toNat)
  case atStart => exact ⟨0, Nat.zero_le _, rfl, Hd, HB0⟩
  case round =>
    obtain ⟨k, hk, rfl, HD, HB⟩ := hrel
    clear Hd HB0
    by_cases hlt : k < N
    · obtain ⟨x, y, z, hx, hy, hz, hlaw⟩ := HLAW.out k hlt
      have hkX : k < sX.size := by omega
      have hkY : k < sY.size := by omega
      have hkZ : k < sZ.size := by omega
      have qX := HXX.out k x hkX hx
      have qY := HYY.out k y hkY hy
      have qZ := HZZ.out k z hkZ hz
      have d0 := HD.out.cell 0
      have d1 := HD.out.cell 1
      simp at d0 d1
      clear hx hy hz HLAW
      rcases hlaw with ⟨rfl, rfl, h1, h2⟩ | ⟨rfl, h1, rfl, rfl, h2⟩ | ⟨rfl, h1⟩ | ⟨rfl, h1, rfl, rfl⟩
      · have o1 : bits .or .u8 (x.toNat : Int) (y.toNat : Int) = (x.toNat : Int) := by rw [bits_or_u8, h1]
        have o2 : bits .or .u8 (x.toNat : Int) (z.toNat : Int) = (x.toNat : Int) := by rw [bits_or_u8, h2]
        clear h1 h2
        generalize (x.toNat : Int) = xi at *
        generalize (y.toNat : Int) = yi at *
        generalize (z.toNat : Int) = zi at *
        go_wp2_with fail
        go_quiet (fail)
        have HD2 : Hid (CellsAt _ (w.heap.size + 1) 32 _) := HD.out.below (below_drewN (Below.refl _ wr) nq) HD.out.lt
        have HB2 : Hid (Below w.heap.size w _) := below_drewN HB.out nq
        go_wp2
        exact ⟨⟨k + 1, by omega, by go_num, HD2, HB2⟩, by simp [intOf]; omega⟩
      · have o1 : bits .or .u8 (z.toNat : Int) (z.toNat : Int) = (z.toNat : Int) := by rw [bits_or_u8, h2]
        have hb : ((k : Int) == ps) = false := beq_eq_false_iff_ne.2 h1
        clear h1 h2
        generalize (z.toNat : Int) = yi at *
        go_wp2_with fail
        go_quiet (fail)
        have HD2 : Hid (CellsAt _ (w.heap.size + 1) 32 _) := HD.out.below (below_drewN (Below.refl _ wr) nq) HD.out.lt
        have HB2 : Hid (Below w.heap.size w _) := below_drewN HB.out nq
        go_wp2
        exact ⟨⟨k + 1, by omega, by go_num, HD2, HB2⟩, by simp [intOf]; omega⟩
      · have ht : (k : Int).tdiv 128 = ps := by rw [Int.tdiv_eq_ediv_of_nonneg (by omega)]; exact h1
        have hpp : (ps == ps) = true := by simp
        generalize (x.toNat : Int) = xi at *
        generalize (y.toNat : Int) = yi at *
        generalize (z.toNat : Int) = zi at *
        go_wp2_with fail
        go_quiet (fail)
        have HD2 : Hid (CellsAt _ (w.heap.size + 1) 32 _) := HD.out.below (below_drewN (Below.refl _ wr) nq) HD.out.lt
        have HB2 : Hid (Below w.heap.size w _) := below_drewN HB.out nq
        go_wp2
        exact ⟨⟨k + 1, by omega, by go_num, HD2, HB2⟩, by simp [intOf]; omega⟩
      · have hb : ((k : Int) / 128 == ps) = false := beq_eq_false_iff_ne.2 h1
        clear h1
        generalize (z.toNat : Int) = yi at *
        go_wp2_with fail
        go_quiet (fail)
        have HD2 : Hid (CellsAt _ (w.heap.size + 1) 32 _) := HD.out.below (below_drewN (Below.refl _ wr) nq) HD.out.lt
        have HB2 : Hid (Below w.heap.size w _) := below_drewN HB.out nq
        go_wp2
        exact ⟨⟨k + 1, by omega, by go_num, HD2, HB2⟩, by simp [intOf]; omega⟩
    · obtain rfl : k = N := by omega
      go_wp2
      go_ret
      exact ⟨rfl, HB.out⟩

theorem walk (F : List ByteArray) (c : Value) (d : Deed) (p : ByteArray) (w : World) (hF : IsFl w.heap.size w c F) (hp : p.size ≤ 140737488351232) :
    Calls Try.prog 5 #[.agg #[c], d.value, .string p] w fun e w' => e = .returned (.bool true) ∧ Below w.heap.size w w' := by
  by_cases h : chkDeeds F [d] = 0
  · exact walk_good F c d p w hF hp h
  · exact walk_bad F c d p w hF hp h

end Go.Proofs.Ytnomapbiklfciaf.flashBits
