/- Texts that are laid together. -/
import Derived.Test.YthmohjgdcjafkagMrgQ
import Derived.Test.YthmohjgdcjafkagMrgR
import Derived.Laws.ResultCell
import Derived.Test.YthmohjgdcjafkagMrgM

/- What must be in any case, of flashes. -/
namespace Go.Proofs.Ythmohjgdcjafkag
open Go.RowKit Go.PlainAid

set_option maxRecDepth 100000

/-- What Do and Torn answer. -/
def doRes (F : List ByteArray) (l : List Deed) : List ByteArray := if chkDeeds F l = 0 then doneAll F l else []
def tornRes (F : List ByteArray) (d : Deed) (p : ByteArray) : List ByteArray := if chkDeeds F [d] = 0 then tornB F d p else []

theorem do_own (F : List ByteArray) (v : Value) (l : List Deed) (vl : Value) (w : World) (hF : IsFl w.heap.size w v F) (hl : RowOf 3 Deed.cell w.heap.size w vl l) :
    Calls Try.prog 18 #[.agg #[v], vl] w fun e w' => (∃ r, e = .returned (.tuple #[.agg #[r], .int .i64 (chkDeeds F l)]) ∧ OwnFl w.heap.size w' r (doRes F l)) ∧ Below w.heap.size w w' := by
  have := flDo_own F v l vl w hF hl
  rw [(chg_done F l).1, (chg_done F l).2] at this
  exact this
theorem torn_own (F : List ByteArray) (v : Value) (d : Deed) (p : ByteArray) (w : World) (hF : IsFl w.heap.size w v F) (hp : p.size ≤ 9223372036854775807) :
    Calls Try.prog 20 #[.agg #[v], d.value, .string p] w fun e w' => (∃ r, e = .returned (.tuple #[.agg #[r], .int .i64 (chkDeeds F [d])]) ∧ OwnFl w.heap.size w' r (tornRes F d p)) ∧ Below w.heap.size w w' := by
  have := flTorn_own F v d p w hF hp
  rw [(chg_torn F d p).1, (chg_torn F d p).2] at this
  exact this

theorem do_doc (F : List ByteArray) (v : Value) (l : List Deed) (vl : Value) (w : World) (hF : IsFl w.heap.size w v F) (hl : RowOf 3 Deed.cell w.heap.size w vl l) :
    Calls Try.prog 18 #[.agg #[v], vl] w fun e w' => (∃ r, e = .returned (.tuple #[.agg #[r], .int .i64 (chkDeeds F l)]) ∧ IsFl w'.heap.size w' r (doRes F l)) ∧ Below w.heap.size w w' := by
  have := flDo_any F v l vl w hF hl
  rw [(chg_done F l).1, (chg_done F l).2] at this
  exact this
theorem torn_doc (F : List ByteArray) (v : Value) (d : Deed) (p : ByteArray) (w : World) (hF : IsFl w.heap.size w v F) (hp : p.size ≤ 9223372036854775807) :
    Calls Try.prog 20 #[.agg #[v], d.value, .string p] w fun e w' => (∃ r, e = .returned (.tuple #[.agg #[r], .int .i64 (chkDeeds F [d])]) ∧ IsFl w'.heap.size w' r (tornRes F d p)) ∧ Below w.heap.size w w' := by
  have := flTorn_any F v d p w hF hp
  rw [(chg_torn F d p).1, (chg_torn F d p).2] at this
  exact this

def bgD : List Deed := [⟨1, 129, 15⟩, ⟨1, 129, 60⟩]
def bgE : Deed := ⟨2, 1, 0⟩
def bgP : ByteArray := ⟨#[255, 1]⟩
def bgF : List ByteArray := newRes 2
def bgG : List ByteArray := doRes bgF bgD
def bgX : List ByteArray := tornRes bgG bgE bgP
theorem bg1 : chkDeeds bgF bgD = 0 := by kernel_rfl
theorem bg2 : chkDeeds bgG [bgE] = 0 := by kernel_rfl
theorem bg3 : readRes bgG 128 3 = (⟨#[255, 12, 255]⟩, 0) := by kernel_rfl
theorem bg4 : readRes bgX 129 1 = (⟨#[13]⟩, 0) := by kernel_rfl
theorem bg5 : chkFl bgG = 0 := by kernel_rfl


set_option maxHeartbeats 4000000 in
theorem flashBegun_any (w : World) : Calls Try.prog 6 #[] w fun e w' => e = .returned (.bool true) ∧ Below w.heap.size w w' := by
  have HN : Hid (∀ W, Calls Try.prog 17 #[.int .i64 2] W fun e w' => (∃ r, e = .returned (.tuple #[.agg #[r], .int .i64 0]) ∧ IsFl w'.heap.size w' r bgF) ∧ Below W.heap.size W w') := fun W => by
    have := flNew_any 2 W
    rw [if_pos (by decide)] at this
    exact this
  have HD : Hid (∀ v vl W, IsFl W.heap.size W v bgF → RowOf 3 Deed.cell W.heap.size W vl bgD → Calls Try.prog 18 #[.agg #[v], vl] W fun e w' => (∃ r, e = .returned (.tuple #[.agg #[r], .int .i64 0]) ∧ IsFl w'.heap.size w' r bgG) ∧ Below W.heap.size W w') := fun v vl W h1 h2 => by
    have := do_doc bgF v bgD vl W h1 h2
    rw [bg1] at this
    exact this
  have HR1 : Hid (∀ v W, IsFl W.heap.size W v bgG → Calls Try.prog 19 #[.agg #[v], .int .i64 128, .int .i64 3] W fun e w' => e = .returned (.tuple #[.string ⟨#[255, 12, 255]⟩, .int .i64 0]) ∧ Below W.heap.size W w') := fun v W h => by
    have := flRead_any bgG v 128 3 W h (by decide) (by decide)
    rw [bg3] at this
    exact this
  have HT : Hid (∀ v W, IsFl W.heap.size W v bgG → Calls Try.prog 20 #[.agg #[v], .agg #[.int .i64 2, .int .i64 1, .int .i64 0], .string ⟨#[255, 1]⟩] W fun e w' => (∃ r, e = .returned (.tuple #[.agg #[r], .int .i64 0]) ∧ IsFl w'.heap.size w' r bgX) ∧ Below W.heap.size W w') := fun v W h => by
    have := torn_doc bgG v bgE bgP W h (by decide)
    rw [bg2] at this
    exact this
  have HR2 : Hid (∀ v W, IsFl W.heap.size W v bgX → Calls Try.prog 19 #[.agg #[v], .int .i64 129, .int .i64 1] W fun e w' => e = .returned (.tuple #[.string ⟨#[13]⟩, .int .i64 0]) ∧ Below W.heap.size W w') := fun v W h => by
    have := flRead_any bgX v 129 1 W h (by decide) (by decide)
    rw [bg4] at this
    exact this
  have HC : Hid (∀ v W, IsFl W.heap.size W v bgG → Calls Try.prog 21 #[.agg #[v]] W fun e w' => e = .returned (.int .i64 0) ∧ Below W.heap.size W w') := fun v W h => by
    have := flCheck_any bgG v W h.1
    rw [bg5] at this
    exact this
  generalize bgG = G at *
  generalize bgX = X at *
  generalize bgF = F at *
  go_enter Try.func6, Try.ntmps6
  go_wp2_with fail
  refine (HN.out _).mono ?_
  rintro e w1 ⟨⟨r1, rfl, h1⟩, b1⟩
  obtain ⟨a1, c1, e1, _⟩ := h1.1
  subst e1
  have HB1 : Hid (Below w.heap.size w w1) := b1
  have HI1 : Hid (IsFl (w1.alloc (.cells #[.slice a1 F.length c1] 26)).heap.size (w1.alloc (.cells #[.slice a1 F.length c1] 26)) (.slice a1 F.length c1) F) := (h1.below ((Below.refl _ _).alloc (Nat.le_refl _) _)).more (by simp)
  clear b1 h1 HN
  have HB2 : Hid (Below w.heap.size w (w1.alloc (.cells #[.slice a1 F.length c1] 26))) := HB1.out.alloc HB1.out.size _
  generalize F.length = nF at *
  have HROW : Hid (∀ (W : World) n, n = W.heap.size → RowOf 3 Deed.cell (W.alloc (.cells #[.int .i64 1, .int .i64 129, .int .i64 15, .int .i64 1, .int .i64 129, .int .i64 60] 40)).heap.size (W.alloc (.cells #[.int .i64 1, .int .i64 129, .int .i64 15, .int .i64 1, .int .i64 129, .int .i64 60] 40)) (.slice (some ⟨n, 0, none⟩) 2 2) bgD) := fun W n hn => by
    subst hn
    exact rowOf_cells (C := deedC) (cells := Deed.cell) (sz := 3) (fun _ => rfl) deedC_at (CellsAt.new W 40 #[.int .i64 1, .int .i64 129, .int .i64 15, .int .i64 1, .int .i64 129, .int .i64 60]) bgD (show 2 ≤ 255 by decide) 2 rfl
  go_wp2_with fail
  have HI2 : Hid (IsFl ((w1.alloc (.cells #[.slice a1 nF c1] 26)).alloc (.cells #[.int .i64 1, .int .i64 129, .int .i64 15, .int .i64 1, .int .i64 129, .int .i64 60] 40)).heap.size ((w1.alloc (.cells #[.slice a1 nF c1] 26)).alloc (.cells #[.int .i64 1, .int .i64 129, .int .i64 15, .int .i64 1, .int .i64 129, .int .i64 60] 40)) (.slice a1 nF c1) F) := (HI1.out.below ((Below.refl _ _).alloc (Nat.le_refl _) _)).more (by simp)
  have HB3 : Hid (Below w.heap.size w ((w1.alloc (.cells #[.slice a1 nF c1] 26)).alloc (.cells #[.int .i64 1, .int .i64 129, .int .i64 15, .int .i64 1, .int .i64 129, .int .i64 60] 40))) := HB2.out.alloc HB2.out.size _
  have HRW : Hid (RowOf 3 Deed.cell ((w1.alloc (.cells #[.slice a1 nF c1] 26)).alloc (.cells #[.int .i64 1, .int .i64 129, .int .i64 15, .int .i64 1, .int .i64 129, .int .i64 60] 40)).heap.size ((w1.alloc (.cells #[.slice a1 nF c1] 26)).alloc (.cells #[.int .i64 1, .int .i64 129, .int .i64 15, .int .i64 1, .int .i64 129, .int .i64 60] 40)) (.slice (some ⟨w1.heap.size + 1, 0, none⟩) 2 2) bgD) := HROW.out _ _ (by simp)
  generalize (w1.alloc (.cells #[.slice a1 nF c1] 26)).alloc (.cells #[.int .i64 1, .int .i64 129, .int .i64 15, .int .i64 1, .int .i64 129, .int .i64 60] 40) = w2 at *
  clear HI1 HB2 HROW
  refine (HD.out _ _ _ HI2.out HRW.out).mono ?_
  rintro e w3 ⟨⟨r3, rfl, h3⟩, b3⟩
  obtain ⟨a3, c3, e3, _⟩ := h3.1
  subst e3
  have HB4 : Hid (Below w.heap.size w (w3.alloc (.cells #[.slice a3 G.length c3] 26))) := by
    have := HB3.out.trans (b3.mono HB3.out.size)
    exact this.alloc this.size _
  have HI4 : Hid (IsFl (w3.alloc (.cells #[.slice a3 G.length c3] 26)).heap.size (w3.alloc (.cells #[.slice a3 G.length c3] 26)) (.slice a3 G.length c3) G) := (h3.below ((Below.refl _ _).alloc (Nat.le_refl _) _)).more (by simp)
  have HC4 : Hid (CellsAt (w3.alloc (.cells #[.slice a3 G.length c3] 26)) w3.heap.size 26 #[.slice a3 G.length c3]) := CellsAt.new _ _ _
  clear b3 h3 HD HI2 HRW HB3
  generalize G.length = nG at *
  go_wp2_with fail
  generalize (w3.alloc (.cells #[.slice a3 nG c3] 26)) = w4 at *
  generalize w3.heap.size = B3 at *
  refine (HR1.out _ _ HI4.out).mono ?_
  rintro e w5 ⟨rfl, b5⟩
  have HB5 : Hid (Below w.heap.size w w5) := HB4.out.trans (b5.mono HB4.out.size)
  have HI5 : Hid (IsFl w5.heap.size w5 (.slice a3 nG c3) G) := (HI4.out.below b5).more b5.size
  have HC5 : Hid (CellsAt w5 B3 26 #[.slice a3 nG c3]) := HC4.out.below b5 HC4.out.lt
  clear b5 HB4 HI4 HC4 HR1
  have x5 := HC5.out.cell 0
  have l5 := HC5.out.lt
  simp at x5
  go_wp2_with fail
  refine (HT.out _ _ HI5.out).mono ?_
  rintro e w6 ⟨⟨r6, rfl, h6⟩, b6⟩
  obtain ⟨a6, c6, e6, _⟩ := h6.1
  subst e6
  have HB7 : Hid (Below w.heap.size w (w6.alloc (.cells #[.slice a6 X.length c6] 26))) := by
    have := HB5.out.trans (b6.mono HB5.out.size)
    exact this.alloc this.size _
  have HI7 : Hid (IsFl (w6.alloc (.cells #[.slice a6 X.length c6] 26)).heap.size (w6.alloc (.cells #[.slice a6 X.length c6] 26)) (.slice a6 X.length c6) X) := (h6.below ((Below.refl _ _).alloc (Nat.le_refl _) _)).more (by simp)
  have hg7 := ((HI5.out.below b6).more b6.size).below ((Below.refl w6.heap.size w6).alloc (Nat.le_refl _) (.cells #[.slice a6 X.length c6] 26))
  have HG7 : Hid (IsFl (w6.alloc (.cells #[.slice a6 X.length c6] 26)).heap.size (w6.alloc (.cells #[.slice a6 X.length c6] 26)) (.slice a3 nG c3) G) := hg7.more (by simp)
  have HC7 : Hid (CellsAt (w6.alloc (.cells #[.slice a6 X.length c6] 26)) B3 26 #[.slice a3 nG c3]) := (HC5.out.below b6 HC5.out.lt).kept (World.grownBy_alloc _ _ none) (by simp)
  clear b6 h6 HT HB5 HI5 HC5 hg7 x5 l5
  generalize X.length = nX at *
  go_wp2_with fail
  generalize (w6.alloc (.cells #[.slice a6 nX c6] 26)) = w7 at *
  generalize w6.heap.size = B6 at *
  refine (HR2.out _ _ HI7.out).mono ?_
  rintro e w8 ⟨rfl, b8⟩
  have HB8 : Hid (Below w.heap.size w w8) := HB7.out.trans (b8.mono HB7.out.size)
  have HG8 : Hid (IsFl w8.heap.size w8 (.slice a3 nG c3) G) := (HG7.out.below b8).more b8.size
  have HC8 : Hid (CellsAt w8 B3 26 #[.slice a3 nG c3]) := HC7.out.below b8 HC7.out.lt
  clear b8 HB7 HI7 HC7 HG7 HR2
  have x8 := HC8.out.cell 0
  have l8 := HC8.out.lt
  simp at x8
  go_wp2_with fail
  refine (HC.out _ _ HG8.out).mono ?_
  rintro e w9 ⟨rfl, b9⟩
  have HB9 : Hid (Below w.heap.size w w9) := HB8.out.trans (b9.mono HB8.out.size)
  clear b9 HB8 HG8 HC8 HC x8 l8
  go_wp2
  go_ret
  exact ⟨rfl, HB9.out⟩

end Go.Proofs.Ythmohjgdcjafkag

/- The contracts of package journal's Append and Format. -/
namespace Go.Proofs.Ythmohjgdcjafkag
open Go.RowKit Go.PlainAid Go.Lib

set_option maxRecDepth 100000

theorem results_cell_tmp2_row {P : Program} {fn : Func} {p u x : Tmp} {ty : TypeId} (h : fn.results = #[.cell p ty, .tmp u, .tmp x]) (tmps : Array Value) (w : World) (g : Nat) (t : TypeId) (cs : Array Value) (fr : Nat × Nat) (d : TypeDesc)
    (hp : tmps.getD p undef = .pointer (some ⟨g, 0, none⟩)) (hg : w.heap[g]? = some (.cells cs t fr))
    (hu : P.underlying ty = some d) (hd : (match d with | .struct _ | .array _ _ => true | _ => false) = true) (hi : (P.info? ty).map (·.size) = some cs.size) :
    (results fn tmps).run P w = .ok (.tuple #[.agg cs, tmps.getD u undef, tmps.getD x undef]) w := by
  have hp' : tmps[p]?.getD undef = .pointer (some ⟨g, 0, none⟩) := by simpa using hp
  simp [results, h, hp', asAddr, run_loadVar_row w g t ty cs fr d hg hu hd hi]

/-- What Append answers. -/
def appRes (F : List ByteArray) (s : ByteArray) : List ByteArray × List Deed × Int :=
  if chkFl F ≠ 0 then ([], [], chkFl F) else if (placeRes ⟨(joinM F).toArray⟩ s).2 ≠ 0 then ([], [], (placeRes ⟨(joinM F).toArray⟩ s).2) else (doRes F (deedsOf (placeRes ⟨(joinM F).toArray⟩ s).1 s), deedsOf (placeRes ⟨(joinM F).toArray⟩ s).1 s, 0)

theorem placeRes_zero {a s : ByteArray} (h : (placeRes a s).2 = 0) : 1 ≤ s.size ∧ s.size ≤ 800 ∧ (lookB a).2.2 = 0 ∧ (placeRes a s).1 = (lookB a).2.1 ∧ (lookB a).2.1 + (3 + s.size) ≤ a.size := by
  unfold placeRes at h ⊢
  by_cases h0 : s.size = 0
  · rw [if_pos h0] at h; exact absurd h (by decide)
  rw [if_neg h0] at h ⊢
  by_cases h1 : 800 < s.size
  · rw [if_pos h1] at h; exact absurd h (by decide)
  rw [if_neg h1] at h ⊢
  by_cases h2 : (lookB a).2.2 ≠ 0
  · rw [if_pos h2] at h; exact absurd h h2
  rw [if_neg h2] at h ⊢
  by_cases h3 : a.size < (lookB a).2.1 + (3 + s.size)
  · rw [if_pos h3] at h; exact absurd h (by decide)
  rw [if_neg h3]
  exact ⟨by omega, by omega, Decidable.not_not.1 h2, rfl, by omega⟩
theorem deedsOf_length (q : Nat) (s : ByteArray) : (deedsOf q s).length = s.size + 4 := by
  unfold deedsOf
  rw [List.length_append, body_length, List.length_singleton]
  omega

set_option maxHeartbeats 8000000 in
theorem append_own (F : List ByteArray) (v : Value) (s : ByteArray) (w : World) (hF : IsFl w.heap.size w v F) (hs : s.size ≤ 9223372036854775807) :
    Calls Try.prog 10 #[.agg #[v], .string s] w fun e w' => (∃ r d, e = .returned (.tuple #[.agg #[r], d, .int .i64 (appRes F s).2.2]) ∧ OwnFl w.heap.size w' r (appRes F s).1 ∧ w'.ownsRow w.heap.size 40 3 d (appRes F s).2.1.length ((appRes F s).2.1.flatMap deedC)) ∧ Below w.heap.size w w' := by
  have HBY : Hid (∀ v W, IsFl W.heap.size W v F → Calls Try.prog 23 #[.agg #[v]] W fun e w' => e = .returned (.tuple #[.string (bytesRes F).1, .int .i64 (bytesRes F).2]) ∧ Below W.heap.size W w') := fun v W h => bytesOf_any F v W h
  obtain ⟨⟨a, cap, rfl, hmx, _⟩, _⟩ := id hF
  have HB1 : Hid (Below w.heap.size w ((w.alloc (.cells #[.slice a F.length cap] 26)).alloc (.cells #[.slice none 0 0] 26))) := ((Below.refl _ _).alloc (Nat.le_refl _) _).alloc (by simp) _
  have HR1 : Hid (CellsAt ((w.alloc (.cells #[.slice a F.length cap] 26)).alloc (.cells #[.slice none 0 0] 26)) w.heap.size 26 #[.slice a F.length cap]) := (CellsAt.new _ _ _).kept (World.grownBy_alloc _ _ none) (by simp)
  have HX1 : Hid (CellsAt ((w.alloc (.cells #[.slice a F.length cap] 26)).alloc (.cells #[.slice none 0 0] 26)) (w.heap.size + 1) 26 #[.slice none 0 0]) := by
    have := CellsAt.new (w.alloc (.cells #[.slice a F.length cap] 26)) 26 #[.slice none 0 0]
    rw [World.size_alloc] at this
    exact this
  have HF1 : Hid (IsFl ((w.alloc (.cells #[.slice a F.length cap] 26)).alloc (.cells #[.slice none 0 0] 26)).heap.size ((w.alloc (.cells #[.slice a F.length cap] 26)).alloc (.cells #[.slice none 0 0] 26)) (.slice a F.length cap) F) := (hF.below HB1.out).more HB1.out.size
  clear hF hmx
  obtain ⟨R, hR⟩ : ∃ R, R = appRes F s := ⟨_, rfl⟩
  rw [← hR]
  by_cases h : chkFl F ≠ 0
  · rw [show appRes F s = ([], [], chkFl F) from if_pos h] at hR
    rw [show bytesRes F = (⟨#[]⟩, chkFl F) from if_pos h] at HBY
    have h' : (chkFl F != 0) = true := by simpa using h
    clear h
    subst hR
    generalize chkFl F = E at *
    generalize F.length = n at *
    go_enter Try.func10, Try.ntmps10
    have r0 := HR1.out.cell 0
    have rl := HR1.out.lt
    simp at r0
    go_wp2_with fail
    generalize ((w.alloc (.cells #[.slice a n cap] 26)).alloc (.cells #[.slice none 0 0] 26)) = w1 at *
    refine (HBY.out _ _ HF1.out).mono ?_
    rintro e w2 ⟨rfl, b⟩
    have HB2 : Hid (Below w.heap.size w w2) := HB1.out.trans (b.mono HB1.out.size)
    have HX2 : Hid (CellsAt w2 (w.heap.size + 1) 26 #[.slice none 0 0]) := HX1.out.below b HX1.out.lt
    clear HB1 HR1 HX1 HF1 b r0 rl HBY
    have x0 := HX2.out.cell 0
    have xl := HX2.out.lt
    have xf := HX2.out.frozen 0
    simp at x0
    go_wp2
    have hF := HX2.out.set 0 (.slice none 0 0)
    simp only [List.setIfInBounds_toArray, List.set_cons_zero] at hF
    refine bodyPost_ret (results_cell_tmp2_row rfl _ _ _ _ _ _ _ rfl hF Try.underlying26 rfl (by kernel_rfl)) rfl ?_
    exact ⟨⟨_, _, rfl, OwnFl.nil _ _, World.ownsRow_nil _ _ _ _⟩, HB2.out.setCell (by simp) _⟩
  · have h0 := Decidable.not_not.1 h
    rw [show bytesRes F = (⟨(joinM F).toArray⟩, 0) from if_neg h] at HBY
    have hbd := joinM_bound h0
    have hbs : (⟨(joinM F).toArray⟩ : ByteArray).size ≤ 4096 := by simp [ByteArray.size]; omega
    unfold appRes at hR
    rw [if_neg h] at hR
    have HPL : Hid (∀ W, Calls Try.prog 24 #[.string ⟨(joinM F).toArray⟩, .string s] W fun e w' => e = .returned (.tuple #[.int .i64 ((placeRes ⟨(joinM F).toArray⟩ s).1 : Int), .int .i64 (placeRes ⟨(joinM F).toArray⟩ s).2]) ∧ Below W.heap.size W w') := fun W => placeFor_any _ s W hbs hs
    have hpz := @placeRes_zero ⟨(joinM F).toArray⟩ s
    have hlb : (lookB ⟨(joinM F).toArray⟩).2.1 ≤ 4096 := Nat.le_trans (lookB_end _) hbs
    clear hbd h h0
    generalize (⟨(joinM F).toArray⟩ : ByteArray) = S at *
    generalize hpl : placeRes S s = PL at *
    obtain ⟨q, pe⟩ := PL
    dsimp only at *
    by_cases hp : pe ≠ 0
    · rw [if_pos hp] at hR
      have hp' : (pe != 0) = true := by simpa using hp
      subst hR
      clear hpz hp hpl
      generalize F.length = n at *
      go_enter Try.func10, Try.ntmps10
      have r0 := HR1.out.cell 0
      have rl := HR1.out.lt
      simp at r0
      go_wp2_with fail
      generalize ((w.alloc (.cells #[.slice a n cap] 26)).alloc (.cells #[.slice none 0 0] 26)) = w1 at *
      refine (HBY.out _ _ HF1.out).mono ?_
      rintro e w2 ⟨rfl, b⟩
      have HB2 : Hid (Below w.heap.size w w2) := HB1.out.trans (b.mono HB1.out.size)
      have HX2 : Hid (CellsAt w2 (w.heap.size + 1) 26 #[.slice none 0 0]) := HX1.out.below b HX1.out.lt
      clear HB1 HR1 HX1 HF1 b r0 rl HBY
      go_wp2_with fail
      refine (HPL.out _).mono ?_
      rintro e w3 ⟨rfl, b⟩
      have HB3 : Hid (Below w.heap.size w w3) := HB2.out.trans (b.mono HB2.out.size)
      have HX3 : Hid (CellsAt w3 (w.heap.size + 1) 26 #[.slice none 0 0]) := HX2.out.below b HX2.out.lt
      clear HB2 HX2 b HPL
      have x0 := HX3.out.cell 0
      have xl := HX3.out.lt
      have xf := HX3.out.frozen 0
      simp at x0
      go_wp2
      have hF := HX3.out.set 0 (.slice none 0 0)
      simp only [List.setIfInBounds_toArray, List.set_cons_zero] at hF
      refine bodyPost_ret (results_cell_tmp2_row rfl _ _ _ _ _ _ _ rfl hF Try.underlying26 rfl (by kernel_rfl)) rfl ?_
      exact ⟨⟨_, _, rfl, OwnFl.nil _ _, World.ownsRow_nil _ _ _ _⟩, HB3.out.setCell (by simp) _⟩
    · rw [if_neg hp] at hR
      obtain rfl : pe = 0 := Decidable.not_not.1 hp
      obtain ⟨_, hs8, _, hq, hrm⟩ := hpz rfl
      have HDE : Hid (∀ W, Calls Try.prog 25 #[.int .i64 (q : Int), .string s] W fun e w' => (∃ r, e = .returned r ∧ w'.ownsRow W.heap.size 40 3 r (deedsOf q s).length ((deedsOf q s).flatMap deedC)) ∧ Below W.heap.size W w') := fun W => deeds_any q s W (by omega) hs8
      have HDL : Hid ((deedsOf q s).length ≤ 9223372036854775807) := by show _ ≤ _; rw [deedsOf_length]; omega
      generalize hD : deedsOf q s = D at *
      have HDO : Hid (∀ v vl W, IsFl W.heap.size W v F → RowOf 3 Deed.cell W.heap.size W vl D → Calls Try.prog 18 #[.agg #[v], vl] W fun e w' => (∃ r, e = .returned (.tuple #[.agg #[r], .int .i64 (chkDeeds F D)]) ∧ OwnFl W.heap.size w' r (doRes F D)) ∧ Below W.heap.size W w') := fun v vl W h1 h2 => do_own F v D vl W h1 h2
      subst hR
      dsimp only
      clear hpz hp hpl hq hrm hs8 hD
      generalize chkDeeds F D = CE at *
      generalize doRes F D = G at *
      generalize F.length = n at *
      go_enter Try.func10, Try.ntmps10
      have r0 := HR1.out.cell 0
      have rl := HR1.out.lt
      simp at r0
      go_wp2_with fail
      generalize ((w.alloc (.cells #[.slice a n cap] 26)).alloc (.cells #[.slice none 0 0] 26)) = w1 at *
      refine (HBY.out _ _ HF1.out).mono ?_
      rintro e w2 ⟨rfl, b⟩
      have HB2 : Hid (Below w.heap.size w w2) := HB1.out.trans (b.mono HB1.out.size)
      have HX2 : Hid (CellsAt w2 (w.heap.size + 1) 26 #[.slice none 0 0]) := HX1.out.below b HX1.out.lt
      have HR2 : Hid (CellsAt w2 w.heap.size 26 #[.slice a n cap]) := HR1.out.below b HR1.out.lt
      have HF2 : Hid (IsFl w2.heap.size w2 (.slice a n cap) F) := (HF1.out.below b).more b.size
      clear HB1 HR1 HX1 HF1 b r0 rl HBY
      go_wp2_with fail
      refine (HPL.out _).mono ?_
      rintro e w3 ⟨rfl, b⟩
      have HB3 : Hid (Below w.heap.size w w3) := HB2.out.trans (b.mono HB2.out.size)
      have HX3 : Hid (CellsAt w3 (w.heap.size + 1) 26 #[.slice none 0 0]) := HX2.out.below b HX2.out.lt
      have HR3 : Hid (CellsAt w3 w.heap.size 26 #[.slice a n cap]) := HR2.out.below b HR2.out.lt
      have HF3 : Hid (IsFl w3.heap.size w3 (.slice a n cap) F) := (HF2.out.below b).more b.size
      clear HB2 HX2 HR2 HF2 b HPL
      go_wp2_with fail
      refine (HDE.out _).mono ?_
      rintro e w4 ⟨⟨dv, rfl, ho⟩, b⟩
      have HB4 : Hid (Below w.heap.size w w4) := HB3.out.trans (b.mono HB3.out.size)
      have HX4 : Hid (CellsAt w4 (w.heap.size + 1) 26 #[.slice none 0 0]) := HX3.out.below b HX3.out.lt
      have HR4 : Hid (CellsAt w4 w.heap.size 26 #[.slice a n cap]) := HR3.out.below b HR3.out.lt
      have HF4 : Hid (IsFl w4.heap.size w4 (.slice a n cap) F) := (HF3.out.below b).more b.size
      have HL3 : Hid (w.heap.size + 1 < w3.heap.size) := HX3.out.lt
      have HO4 : Hid (w4.ownsRow w3.heap.size 40 3 dv D.length (D.flatMap deedC)) := ho
      have HW4 : Hid (RowOf 3 Deed.cell w4.heap.size w4 dv D) := own_rows (C := deedC) (fun _ => rfl) deedC_at ho HDL.out
      obtain ⟨da, dc, rfl⟩ := own_form ho
      clear HX3 HR3 HF3 b HDE ho
      generalize hnD : D.length = nD at *
      have HnD : Hid (D.length = nD) := hnD
      clear hnD
      have r0 := HR4.out.cell 0
      have rl := HR4.out.lt
      simp at r0
      go_wp2_with fail
      refine (HDO.out _ _ _ HF4.out HW4.out).mono ?_
      rintro e w5 ⟨⟨r, rfl, hg⟩, b⟩
      have hB5 : Below w.heap.size w (w5.alloc (.cells #[r] 26)) := by
        have := HB4.out.trans (b.mono HB4.out.size)
        exact this.alloc this.size _
      have HB5 : Hid (Below w.heap.size w (w5.alloc (.cells #[r] 26))) := hB5
      have hX5 := (HX4.out.below b HX4.out.lt).kept (World.grownBy_alloc w5 (.cells #[r] 26) none) (by simp)
      have HX5 : Hid (CellsAt (w5.alloc (.cells #[r] 26)) (w.heap.size + 1) 26 #[.slice none 0 0]) := hX5
      have HO5 : Hid ((w5.alloc (.cells #[r] 26)).ownsRow w3.heap.size 40 3 (.slice da nD dc) nD (D.flatMap deedC)) := (own_below HO4.out b).alloc _
      have HG5 : Hid (OwnFl (w.heap.size + 2) (w5.alloc (.cells #[r] 26)) r G) := (hg.lower HX4.out.lt).below ((Below.refl _ _).alloc (Nat.le_refl _) _)
      have HC5 : Hid (CellsAt (w5.alloc (.cells #[r] 26)) w5.heap.size 26 #[r]) := CellsAt.new _ _ _
      have HL5 : Hid (w.heap.size + 1 < w5.heap.size) := (HX4.out.below b HX4.out.lt).lt
      obtain ⟨ra, rc, rfl⟩ := own_form hg.1
      clear HX4 HR4 HF4 HW4 HO4 b HDO hg r0 rl hB5 hX5 HB4
      generalize G.length = nG at *
      have x0 := HX5.out.cell 0
      have xl := HX5.out.lt
      have xf := HX5.out.frozen 0
      have c0 := HC5.out.cell 0
      have cl := HC5.out.lt
      simp at x0 c0
      go_wp2
      generalize (w5.alloc (.cells #[.slice ra nG rc] 26)) = w6 at *
      generalize w5.heap.size = B5 at *
      have hF := HX5.out.set 0 (.slice ra nG rc)
      simp only [List.setIfInBounds_toArray, List.set_cons_zero] at hF
      refine bodyPost_ret (results_cell_tmp2_row rfl _ _ _ _ _ _ _ rfl hF Try.underlying26 rfl (by kernel_rfl)) rfl ?_
      have ho := HO5.out.kept (grown_set w6 (w.heap.size + 1) 0 (.slice ra nG rc)) (.inr (fun e => by
        have h1 := own_block HO5.out _ e
        have := HL3.out
        omega))
      refine ⟨⟨_, _, rfl, ?_, ?_⟩, HB5.out.setCell (by simp) _⟩
      · exact (HG5.out.stored (by omega) _).lower (by omega)
      · have := own_lower ho (b := w.heap.size) (by have := HL3.out; omega)
        rw [HnD.out]
        exact this

theorem append_any (F : List ByteArray) (v : Value) (s : ByteArray) (w : World) (hF : IsFl w.heap.size w v F) (hs : s.size ≤ 9223372036854775807) :
    Calls Try.prog 10 #[.agg #[v], .string s] w fun e w' => (∃ r d, e = .returned (.tuple #[.agg #[r], d, .int .i64 (appRes F s).2.2]) ∧ IsFl w'.heap.size w' r (appRes F s).1 ∧ w'.ownsRow w.heap.size 40 3 d (appRes F s).2.1.length ((appRes F s).2.1.flatMap deedC)) ∧ Below w.heap.size w w' := by
  refine (append_own F v s w hF hs).mono ?_
  rintro e w' ⟨⟨r, d, he, h1, h2⟩, hb⟩
  exact ⟨⟨r, d, he, h1.is, h2⟩, hb⟩

/-- What Format answers. -/
def fmtRes (n : Int) : List ByteArray × Int := if n < 3 then ([], 3) else (newRes n, if n ≤ 32 then 0 else 3)

set_option maxHeartbeats 4000000 in
theorem format_own (n : Int) (w : World) :
    Calls Try.prog 7 #[.int .i64 n] w fun e w' => (∃ r, e = .returned (.tuple #[.agg #[r], .int .i64 (fmtRes n).2]) ∧ OwnFl w.heap.size w' r (fmtRes n).1) ∧ Below w.heap.size w w' := by
  have HB1 : Hid (Below w.heap.size w (w.alloc (.cells #[.slice none 0 0] 26))) := (Below.refl _ _).alloc (Nat.le_refl _) _
  have HX1 : Hid (CellsAt (w.alloc (.cells #[.slice none 0 0] 26)) w.heap.size 26 #[.slice none 0 0]) := CellsAt.new _ _ _
  obtain ⟨R, hR⟩ : ∃ R, R = fmtRes n := ⟨_, rfl⟩
  rw [← hR]
  unfold fmtRes at hR
  by_cases h : n < 3
  · rw [if_pos h] at hR
    subst hR
    go_enter Try.func7, Try.ntmps7
    have x0 := HX1.out.cell 0
    have xl := HX1.out.lt
    have xf := HX1.out.frozen 0
    simp at x0
    go_wp2
    refine bodyPost_ret (results_cell_tmp_row rfl _ _ _ _ _ _ _ rfl HX1.out Try.underlying26 rfl (by kernel_rfl)) rfl ?_
    exact ⟨⟨_, rfl, OwnFl.nil _ _⟩, HB1.out⟩
  · rw [if_neg h] at hR
    have HN : Hid (∀ W, Calls Try.prog 17 #[.int .i64 n] W fun e w' => (∃ r, e = .returned (.tuple #[.agg #[r], .int .i64 (if n ≤ 32 then 0 else 3)]) ∧ OwnFl W.heap.size w' r (newRes n)) ∧ Below W.heap.size W w') := fun W => by
      have := flNew_own n W
      rw [show (if 1 ≤ n ∧ n ≤ 32 then (0 : Int) else 3) = if n ≤ 32 then 0 else 3 by
        by_cases h2 : n ≤ 32
        · rw [if_pos ⟨by omega, h2⟩, if_pos h2]
        · rw [if_neg (by omega), if_neg h2]] at this
      exact this
    subst hR
    dsimp only
    generalize (if n ≤ 32 then (0 : Int) else 3) = U at *
    generalize newRes n = G at *
    go_enter Try.func7, Try.ntmps7
    go_wp2_with fail
    refine (HN.out _).mono ?_
    rintro e w2 ⟨⟨r, rfl, hg⟩, b⟩
    have HB2 : Hid (Below w.heap.size w w2) := HB1.out.trans (b.mono HB1.out.size)
    have HX2 : Hid (CellsAt w2 w.heap.size 26 #[.slice none 0 0]) := HX1.out.below b HX1.out.lt
    have HG2 : Hid (OwnFl (w.heap.size + 1) w2 r G) := hg.lower (by simp)
    obtain ⟨ra, rc, rfl⟩ := own_form hg.1
    clear HB1 HX1 b hg HN
    generalize G.length = nG at *
    have x0 := HX2.out.cell 0
    have xl := HX2.out.lt
    have xf := HX2.out.frozen 0
    simp at x0
    go_wp2
    have hF := HX2.out.set 0 (.slice ra nG rc)
    simp only [List.setIfInBounds_toArray, List.set_cons_zero] at hF
    refine bodyPost_ret (results_cell_tmp_row rfl _ _ _ _ _ _ _ rfl hF Try.underlying26 rfl (by kernel_rfl)) rfl ?_
    exact ⟨⟨_, rfl, (HG2.out.stored (by omega) _).lower (by omega)⟩, HB2.out.setCell (by simp) _⟩

theorem format_any (n : Int) (w : World) :
    Calls Try.prog 7 #[.int .i64 n] w fun e w' => (∃ r, e = .returned (.tuple #[.agg #[r], .int .i64 (fmtRes n).2]) ∧ IsFl w'.heap.size w' r (fmtRes n).1) ∧ Below w.heap.size w w' := by
  refine (format_own n w).mono ?_
  rintro e w' ⟨⟨r, he, ho⟩, hb⟩
  exact ⟨⟨r, he, ho.is⟩, hb⟩

end Go.Proofs.Ythmohjgdcjafkag

/- Records that last, as data: what lies there behind some of the deeds of a record, one more of them torn or not. -/
namespace Go.Proofs.Ythmohjgdcjafkag
open Go.RowKit Go.PlainAid Go.Lib

/-- The byte that a record's entry has at a place (but for the mark). -/
def wantB (s : ByteArray) (i : Nat) : UInt8 := if i = 0 then UInt8.ofNat (s.size % 256) else if i = 1 then UInt8.ofNat (s.size / 256) else at8 s (i - 3)
def markB (n k : Nat) : UInt8 := if 4 + n ≤ k then 252 else if 3 ≤ k then 254 else 255
/-- A byte behind k deeds. -/
def stB (q : Nat) (s : ByteArray) (k j : Nat) (b : UInt8) : UInt8 :=
  if q ≤ j ∧ j < q + 3 + s.size then (if j = q + 2 then markB s.size k else if j - q < k then wantB s (j - q) else 255) else b
def stL (q : Nat) (s : ByteArray) (k : Nat) (c : List UInt8) : List UInt8 := c.mapIdx (stB q s k)
/-- The deeds, one by one. -/
def deedK (q : Nat) (s : ByteArray) (k : Nat) : Deed :=
  if k = 3 + s.size then ⟨1, (q : Int) + 2, 252⟩ else if k = 2 then ⟨1, (q : Int) + 2, 254⟩ else ⟨1, ((q + k : Nat) : Int), ((wantB s k).toNat : Int)⟩

theorem deedsOf_map (q : Nat) (s : ByteArray) (h0 : 1 ≤ s.size) (h8 : s.size ≤ 800) : deedsOf q s = (List.range (3 + s.size + 1)).map (deedK q s) := by
  rw [List.range_succ, List.map_append, List.range_add, List.map_append, List.map_map]
  unfold deedsOf headOf bodyOf
  congr 1
  · congr 1
    · show [(⟨1, (q : Int), (s.size : Int) % 256⟩ : Deed), ⟨1, (q : Int) + 1, (s.size : Int) / 256⟩, ⟨1, (q : Int) + 2, 254⟩] = [deedK q s 0, deedK q s 1, deedK q s 2]
      have e0 : deedK q s 0 = ⟨1, (q : Int), (s.size : Int) % 256⟩ := by
        unfold deedK
        rw [if_neg (by omega), if_neg (by decide)]
        congr 1
        unfold wantB
        rw [if_pos rfl, UInt8.toNat_ofNat']
        omega
      have e1 : deedK q s 1 = ⟨1, (q : Int) + 1, (s.size : Int) / 256⟩ := by
        unfold deedK
        rw [if_neg (by omega), if_neg (by decide)]
        congr 1
        unfold wantB
        rw [if_neg (by decide), if_pos rfl, UInt8.toNat_ofNat']
        omega
      have e2 : deedK q s 2 = ⟨1, (q : Int) + 2, 254⟩ := by
        unfold deedK
        rw [if_neg (by omega), if_pos rfl]
      rw [e0, e1, e2]
    · apply List.map_congr_left
      intro i hi
      have hi := List.mem_range.1 hi
      show _ = deedK q s (3 + i)
      unfold deedK
      rw [if_neg (by omega), if_neg (by omega)]
      have : wantB s (3 + i) = at8 s i := by
        unfold wantB
        rw [if_neg (by omega), if_neg (by omega), show 3 + i - 3 = i by omega]
      rw [this]
      congr 1
      omega
  · show _ = [deedK q s (3 + s.size)]
    congr 1
    unfold deedK
    rw [if_pos rfl]
theorem deedsOf_at (q : Nat) (s : ByteArray) (h0 : 1 ≤ s.size) (h8 : s.size ≤ 800) (k : Nat) (hk : k < 4 + s.size) : (deedsOf q s)[k]? = some (deedK q s k) := by
  rw [deedsOf_map q s h0 h8, List.getElem?_map, List.getElem?_range (by omega)]
  rfl

/-- Where a deed of these programs, and what. -/
def posK (q : Nat) (s : ByteArray) (k : Nat) : Nat := if k = 3 + s.size ∨ k = 2 then q + 2 else q + k
def valK (s : ByteArray) (k : Nat) : UInt8 := if k = 3 + s.size then 252 else if k = 2 then 254 else wantB s k
theorem deedK_is (q : Nat) (s : ByteArray) (k : Nat) : deedK q s k = ⟨1, ((posK q s k : Nat) : Int), ((valK s k).toNat : Int)⟩ := by
  unfold deedK posK valK
  by_cases h1 : k = 3 + s.size
  · rw [if_pos h1, if_pos (.inl h1), if_pos h1]; rfl
  by_cases h2 : k = 2
  · rw [if_neg h1, if_pos h2, if_pos (.inr h2), if_neg h1, if_pos h2]; rfl
  · rw [if_neg h1, if_neg h2, if_neg (by omega), if_neg h1, if_neg h2]
theorem deedK_right {n : Nat} (q : Nat) (s : ByteArray) (k : Nat) (hk : k < 4 + s.size) (hr : q + 3 + s.size ≤ n) : chkDeed n (deedK q s k) = 0 := by
  rw [deedK_is]
  unfold chkDeed
  have hp : posK q s k < q + 3 + s.size := by unfold posK; by_cases h : k = 3 + s.size ∨ k = 2 <;> simp only [h, if_true, if_false] <;> omega
  have hv := (valK s k).toNat_lt
  rw [if_pos rfl, if_neg (by dsimp only; omega)]
theorem turn_prog (t : Nat → UInt8 → UInt8) (p : Nat) (v : UInt8) (c : List UInt8) (j : Nat) : (turnM t ⟨1, (p : Int), (v.toNat : Int)⟩ c)[j]? = (c[j]?).map fun b => if j = p then b ^^^ t 0 (b ^^^ (b &&& v)) else b := by
  unfold turnM
  rw [turnK_at]
  congr 1
  funext b
  show (if (Deed.start ⟨1, (p : Int), _⟩) ≤ j ∧ j < _ + Deed.many _ then _ else _) = _
  have e1 : Deed.start ⟨1, (p : Int), (v.toNat : Int)⟩ = p := by unfold Deed.start; rw [if_neg (show ¬ ((1 : Int) = 2) by decide)]; exact Int.toNat_natCast p
  have e2 : Deed.many ⟨1, (p : Int), (v.toNat : Int)⟩ = 1 := by unfold Deed.many; rw [if_neg (show ¬ ((1 : Int) = 2) by decide)]
  have e3 : Deed.bec ⟨1, (p : Int), (v.toNat : Int)⟩ b = b &&& v := by
    unfold Deed.bec
    rw [if_neg (show ¬ ((1 : Int) = 2) by decide)]
    dsimp only
    rw [Int.toNat_natCast]
    congr 1
    apply UInt8.toNat_inj.1
    rw [UInt8.toNat_ofNat', Nat.mod_eq_of_lt v.toNat_lt]
  rw [e1, e2, e3]
  by_cases h : j = p
  · subst h
    rw [if_pos (by omega), if_pos rfl, Nat.sub_self]
  · rw [if_neg (by omega), if_neg h]

theorem and_ff (v : UInt8) : (255 : UInt8) &&& v = v := by
  apply u8_ext
  intro i hi
  have f : ∀ i, i < 8 → (255 : UInt8).toBitVec.getLsbD i = true := by decide
  simp only [UInt8.toBitVec_and, BitVec.getLsbD_and, f i hi, Bool.true_and]
theorem stB_elsewhere (q : Nat) (s : ByteArray) (k j : Nat) (b : UInt8) (h : j ≠ posK q s k) : stB q s (k + 1) j b = stB q s k j b := by
  unfold stB
  by_cases h1 : q ≤ j ∧ j < q + 3 + s.size
  · rw [if_pos h1, if_pos h1]
    unfold posK at h
    by_cases h2 : j = q + 2
    · rw [if_pos h2, if_pos h2]
      have h3 : ¬ (k = 3 + s.size ∨ k = 2) := fun hc => by rw [if_pos hc] at h; omega
      unfold markB
      by_cases h4 : 4 + s.size ≤ k
      · rw [if_pos h4, if_pos (by omega)]
      · rw [if_neg h4, if_neg (by omega)]
        by_cases h5 : 3 ≤ k
        · rw [if_pos h5, if_pos (by omega)]
        · rw [if_neg h5, if_neg (by omega)]
    · rw [if_neg h2, if_neg h2]
      by_cases h3 : k = 3 + s.size ∨ k = 2
      · by_cases h4 : j - q < k
        · rw [if_pos h4, if_pos (by omega)]
        · rw [if_neg h4, if_neg (by omega)]
      · rw [if_neg h3] at h
        by_cases h4 : j - q < k
        · rw [if_pos h4, if_pos (by omega)]
        · rw [if_neg h4, if_neg (by omega)]
  · rw [if_neg h1, if_neg h1]
theorem stB_here (q : Nat) (s : ByteArray) (k : Nat) (b : UInt8) (hk : k < 4 + s.size) : stB q s k (posK q s k) b &&& valK s k = stB q s (k + 1) (posK q s k) b := by
  unfold posK valK
  by_cases h1 : k = 3 + s.size
  · rw [if_pos (.inl h1), if_pos h1]
    unfold stB
    rw [if_pos (by omega), if_pos rfl, if_pos (by omega), if_pos rfl]
    unfold markB
    rw [if_neg (by omega), if_pos (by omega), if_pos (by omega)]
    decide
  by_cases h2 : k = 2
  · rw [if_pos (.inr h2), if_neg h1, if_pos h2]
    unfold stB
    rw [if_pos (by omega), if_pos rfl, if_pos (by omega), if_pos rfl]
    unfold markB
    rw [if_neg (by omega), if_neg (by omega), if_neg (by omega), if_pos (by omega)]
    decide
  · rw [if_neg (by omega), if_neg h1, if_neg h2]
    unfold stB
    rw [if_pos (by omega), if_neg (by omega), if_neg (by omega), if_pos (by omega), if_neg (by omega), if_pos (by omega), and_ff]
    congr 1
    omega
theorem st_step (q : Nat) (s : ByteArray) (k : Nat) (hk : k < 4 + s.size) (c : List UInt8) : turnM allT (deedK q s k) (stL q s k c) = stL q s (k + 1) c := by
  apply List.ext_getElem?
  intro j
  rw [deedK_is, turn_prog]
  unfold stL
  rw [List.getElem?_mapIdx, List.getElem?_mapIdx]
  cases c[j]? with
  | none => rfl
  | some b =>
    simp only [Option.map_some]
    unfold allT
    by_cases h : j = posK q s k
    · subst h
      rw [if_pos rfl, u8_x2, stB_here q s k b hk]
    · rw [if_neg h, stB_elsewhere q s k j b h]
theorem st_zero (q : Nat) (s : ByteArray) (c : List UInt8) (hf : ∀ j b, q ≤ j → c[j]? = some b → b = 255) : stL q s 0 c = c := by
  apply List.ext_getElem?
  intro j
  unfold stL
  rw [List.getElem?_mapIdx]
  cases hc : c[j]? with
  | none => rfl
  | some b =>
    simp only [Option.map_some]
    congr 1
    unfold stB
    by_cases h1 : q ≤ j ∧ j < q + 3 + s.size
    · rw [if_pos h1, hf j b h1.1 hc]
      by_cases h2 : j = q + 2
      · rw [if_pos h2]
        unfold markB
        rw [if_neg (by omega), if_neg (by decide)]
      · rw [if_neg h2, if_neg (by omega)]
    · rw [if_neg h1]

theorem done_snoc (F : List ByteArray) (l : List Deed) (d : Deed) : doneAll F (l ++ [d]) = doneB (doneAll F l) d := by unfold doneAll; rw [List.foldl_append]; rfl
theorem take_next {q : Nat} {s : ByteArray} (h0 : 1 ≤ s.size) (h8 : s.size ≤ 800) {k : Nat} (hk : k < 4 + s.size) : (deedsOf q s).take (k + 1) = (deedsOf q s).take k ++ [deedK q s k] := by
  rw [List.take_add_one, deedsOf_at q s h0 h8 k hk]
  rfl
/-- Behind k deeds. -/
theorem stage {n : Nat} {F : List ByteArray} (hG : GoodF n F) {q : Nat} {s : ByteArray} (h0 : 1 ≤ s.size) (h8 : s.size ≤ 800) (hr : q + 3 + s.size ≤ n * 128) (hf : ∀ j b, q ≤ j → (joinM F)[j]? = some b → b = 255) : ∀ k, k ≤ 4 + s.size → GoodF n (doneAll F ((deedsOf q s).take k)) ∧ joinM (doneAll F ((deedsOf q s).take k)) = stL q s k (joinM F)
  | 0, _ => ⟨hG, (st_zero q s _ hf).symm⟩
  | k + 1, hk => by
    obtain ⟨g, e⟩ := stage hG h0 h8 hr hf k (by omega)
    have hc := deedK_right q s k (by omega) hr
    rw [take_next h0 h8 (by omega), done_snoc]
    exact ⟨doneB_good g hc, by rw [← turn_done g hc, e, st_step q s k (by omega)]⟩
/-- Behind k deeds, the next one torn. -/
theorem stage_torn {n : Nat} {F : List ByteArray} (hG : GoodF n F) {q : Nat} {s : ByteArray} (h0 : 1 ≤ s.size) (h8 : s.size ≤ 800) (hr : q + 3 + s.size ≤ n * 128) (hf : ∀ j b, q ≤ j → (joinM F)[j]? = some b → b = 255) (k : Nat) (hk : k < 4 + s.size) (p : ByteArray) : GoodF n (tornB (doneAll F ((deedsOf q s).take k)) (deedK q s k) p) ∧ joinM (tornB (doneAll F ((deedsOf q s).take k)) (deedK q s k) p) = turnM (tornT 1 p) (deedK q s k) (stL q s k (joinM F)) := by
  obtain ⟨g, e⟩ := stage hG h0 h8 hr hf k (by omega)
  have hc := deedK_right q s k (by omega) hr
  refine ⟨tornB_good g hc p, ?_⟩
  rw [← turn_torn g hc p, e]
  congr 1
  rw [deedK_is]

/-- What came of a deed, done or torn: bytes elsewhere as they were; at its place some bits. -/
theorem torn_at (q : Nat) (s : ByteArray) (k : Nat) (p : ByteArray) (c : List UInt8) : ∃ x : UInt8, ∀ j, (turnM (tornT 1 p) (deedK q s k) (stL q s k c))[j]? = (c[j]?).map fun b => if j = posK q s k then stB q s k j b ^^^ ((stB q s k j b ^^^ (stB q s k j b &&& valK s k)) &&& ~~~ x) else stB q s k j b := by
  refine ⟨if p.size = 0 then 255 else p.data.toList.getD 0 0, fun j => ?_⟩
  rw [deedK_is, turn_prog]
  unfold stL
  rw [List.getElem?_mapIdx]
  cases c[j]? with
  | none => rfl
  | some b =>
    simp only [Option.map_some]
    congr 1
theorem mark_first (x : UInt8) : (255 : UInt8) ^^^ ((255 ^^^ (255 &&& 254)) &&& ~~~ x) = 255 ∨ (255 : UInt8) ^^^ ((255 ^^^ (255 &&& 254)) &&& ~~~ x) = 254 := by
  have : ∀ n, n < 256 → (255 : UInt8) ^^^ ((255 ^^^ (255 &&& 254)) &&& ~~~ (UInt8.ofNat n)) = 255 ∨ (255 : UInt8) ^^^ ((255 ^^^ (255 &&& 254)) &&& ~~~ (UInt8.ofNat n)) = 254 := by decide +kernel
  have h := this x.toNat x.toNat_lt
  rwa [show UInt8.ofNat x.toNat = x from UInt8.toNat_inj.1 (by rw [UInt8.toNat_ofNat', Nat.mod_eq_of_lt x.toNat_lt])] at h
theorem mark_last (x : UInt8) : (254 : UInt8) ^^^ ((254 ^^^ (254 &&& 252)) &&& ~~~ x) = 254 ∨ (254 : UInt8) ^^^ ((254 ^^^ (254 &&& 252)) &&& ~~~ x) = 252 := by
  have : ∀ n, n < 256 → (254 : UInt8) ^^^ ((254 ^^^ (254 &&& 252)) &&& ~~~ (UInt8.ofNat n)) = 254 ∨ (254 : UInt8) ^^^ ((254 ^^^ (254 &&& 252)) &&& ~~~ (UInt8.ofNat n)) = 252 := by decide +kernel
  have h := this x.toNat x.toNat_lt
  rwa [show UInt8.ofNat x.toNat = x from UInt8.toNat_inj.1 (by rw [UInt8.toNat_ofNat', Nat.mod_eq_of_lt x.toNat_lt])] at h

theorem at8_list (c : List UInt8) (j : Nat) : at8 ⟨c.toArray⟩ j = c.getD j 0 := rfl
theorem at8_some {c : List UInt8} {j : Nat} {b : UInt8} (h : c[j]? = some b) : at8 ⟨c.toArray⟩ j = b := by
  rw [at8_list, List.getD_eq_getElem?_getD, h]
  rfl

section outcome
variable {S T s : ByteArray} {recs : List ByteArray} {q : Nat}

/-- Of the head some bits are there, the mark is not. -/
theorem out_head (hz : S.size = T.size) (h : lookB S = (recs, q, 0)) (hb : ∀ j, j < q → at8 S j = at8 T j) (hf : ∀ j, q + 2 ≤ j → j < T.size → at8 T j = 255) (hr : q + 3 ≤ T.size) : ∃ q', lookB T = (recs, q', 0) ∧ q' ≤ q + 3 := by
  by_cases h1 : at8 T q = 255 ∧ at8 T (q + 1) = 255
  · refine ⟨q, lookB_same hz h hb fun j h2 h3 => ?_, by omega⟩
    by_cases e0 : j = q
    · rw [e0]; exact h1.1
    by_cases e1 : j = q + 1
    · rw [e1]; exact h1.2
    · exact hf j (by omega) h3
  · refine ⟨q + 3, ?_, Nat.le_refl _⟩
    have := lookB_entry (z := 3) (r := ⟨#[]⟩) (b := false) hz h hb (by
      rw [ent_at T q hr, if_neg (fun hc => h1 ⟨hc.1, hc.2.1⟩), if_pos (hf _ (by omega) (by omega))]) (fun j h2 h3 => hf j (by omega) h3)
    simpa using this
theorem head_many (h0 : 1 ≤ s.size) (h8 : s.size ≤ 800) (hl : at8 T q = wantB s 0) (hh : at8 T (q + 1) = wantB s 1) : manyAt T q = s.size := by
  unfold manyAt
  rw [hl, hh]
  unfold wantB
  rw [if_pos rfl, if_neg (by decide), if_pos rfl, UInt8.toNat_ofNat', UInt8.toNat_ofNat']
  omega
theorem hi_small (h8 : s.size ≤ 800) : wantB s 1 ≠ 255 := by
  unfold wantB
  rw [if_neg (by decide), if_pos rfl]
  intro h
  have := congrArg UInt8.toNat h
  rw [UInt8.toNat_ofNat'] at this
  have e : (255 : UInt8).toNat = 255 := rfl
  omega
/-- The record is begun. -/
theorem out_many (hz : S.size = T.size) (h : lookB S = (recs, q, 0)) (hb : ∀ j, j < q → at8 S j = at8 T j) (h0 : 1 ≤ s.size) (h8 : s.size ≤ 800) (hr : q + 3 + s.size ≤ T.size) (hl : at8 T q = wantB s 0) (hh : at8 T (q + 1) = wantB s 1) (hm : at8 T (q + 2) = 254) (hf : ∀ j, q + 3 + s.size ≤ j → j < T.size → at8 T j = 255) : lookB T = (recs, q + 3 + s.size, 0) := by
  have e := head_many h0 h8 hl hh
  have := lookB_entry (z := 3 + s.size) (r := ⟨#[]⟩) (b := false) hz h hb (by
    rw [ent_at T q (by omega), if_neg (fun hc => hi_small h8 (by rw [← hh]; exact hc.2.1)), hm, if_neg (by decide), e, if_neg (by omega), if_pos rfl]) (fun j h2 h3 => hf j (by omega) h3)
  rw [this]
  simp
  omega
/-- The record is whole. -/
theorem out_whole (hz : S.size = T.size) (h : lookB S = (recs, q, 0)) (hb : ∀ j, j < q → at8 S j = at8 T j) (h0 : 1 ≤ s.size) (h8 : s.size ≤ 800) (hr : q + 3 + s.size ≤ T.size) (hl : at8 T q = wantB s 0) (hh : at8 T (q + 1) = wantB s 1) (hm : at8 T (q + 2) = 252) (hw : ∀ i, i < s.size → at8 T (q + 3 + i) = at8 s i) (hf : ∀ j, q + 3 + s.size ≤ j → j < T.size → at8 T j = 255) : lookB T = (recs ++ [s], q + 3 + s.size, 0) := by
  have e := head_many h0 h8 hl hh
  have hx : T.extract (q + 3) (q + 3 + s.size) = s := by
    apply at8_ext (by rw [ByteArray.size_extract]; omega)
    intro k hk
    rw [ByteArray.size_extract] at hk
    rw [at8_extract _ _ _ _ (by omega)]
    exact hw k (by omega)
  have := lookB_entry (z := 3 + s.size) (r := s) (b := true) hz h hb (by
    rw [ent_at T q (by omega), if_neg (fun hc => hi_small h8 (by rw [← hh]; exact hc.2.1)), hm, if_neg (by decide), e, if_neg (by omega), if_neg (by decide), if_pos rfl, hx]) (fun j h2 h3 => hf j (by omega) h3)
  rw [this]
  simp
  omega
end outcome

theorem size_of_join (F : List ByteArray) : (⟨(joinM F).toArray⟩ : ByteArray).size = (joinM F).length := size_mk _
theorem rest_free {F : List ByteArray} {recs : List ByteArray} {q : Nat} (h : lookB ⟨(joinM F).toArray⟩ = (recs, q, 0)) : ∀ j b, q ≤ j → (joinM F)[j]? = some b → b = 255 := fun j b hj hb => by
  have := (allFF_ext _ q).1 (lookB_zero h).2.2.1 j hj (by rw [size_of_join]; exact (List.getElem?_eq_some_iff.1 hb).1)
  rwa [at8_some hb] at this

/-- All deeds: the record is there. -/
theorem append_there {n : Nat} {F : List ByteArray} (hG : GoodF n F) {s : ByteArray} (h0 : 1 ≤ s.size) (h8 : s.size ≤ 800) {recs : List ByteArray} {q : Nat} (h : lookB ⟨(joinM F).toArray⟩ = (recs, q, 0)) (hr : q + 3 + s.size ≤ n * 128) : GoodF n (doneAll F (deedsOf q s)) ∧ lookB ⟨(joinM (doneAll F (deedsOf q s))).toArray⟩ = (recs ++ [s], q + 3 + s.size, 0) ∧ chkDeeds F (deedsOf q s) = 0 := by
  have hf := rest_free h
  obtain ⟨g, e⟩ := stage hG h0 h8 hr hf (4 + s.size) (Nat.le_refl _)
  have hl := joinM_length hG.2.2.2
  rw [hG.1] at hl
  rw [List.take_of_length_le (by rw [deedsOf_length]; omega)] at g e
  have ha : ∀ j, j < n * 128 → at8 ⟨(joinM (doneAll F (deedsOf q s))).toArray⟩ j = stB q s (4 + s.size) j (at8 ⟨(joinM F).toArray⟩ j) := fun j hj => by
    obtain ⟨b, hb⟩ : ∃ b, (joinM F)[j]? = some b := ⟨_, List.getElem?_eq_getElem (by omega)⟩
    rw [at8_some hb]
    apply at8_some
    rw [e]
    unfold stL
    rw [List.getElem?_mapIdx, hb]
    rfl
  have hs1 : (⟨(joinM F).toArray⟩ : ByteArray).size = n * 128 := by rw [size_of_join, hl]
  have hs2 : (⟨(joinM (doneAll F (deedsOf q s))).toArray⟩ : ByteArray).size = n * 128 := by rw [size_of_join, joinM_length g.2.2.2, g.1]
  refine ⟨g, ?_, ?_⟩
  · refine out_whole (S := ⟨(joinM F).toArray⟩) (by rw [hs1, hs2]) h (fun j hj => ?_) h0 h8 (by omega) ?_ ?_ ?_ (fun i hi => ?_) (fun j h2 h3 => ?_)
    · rw [ha j (by omega)]
      unfold stB
      rw [if_neg (by omega)]
    · rw [ha q (by omega)]
      unfold stB
      rw [if_pos (by omega), if_neg (by omega), if_pos (by omega), Nat.sub_self]
    · rw [ha (q + 1) (by omega)]
      unfold stB
      rw [if_pos (by omega), if_neg (by omega), if_pos (by omega), Nat.add_sub_cancel_left]
    · rw [ha (q + 2) (by omega)]
      unfold stB
      rw [if_pos (by omega), if_pos rfl]
      unfold markB
      rw [if_pos (by omega)]
    · rw [ha (q + 3 + i) (by omega)]
      unfold stB
      rw [if_pos (by omega), if_neg (by omega), if_pos (by omega)]
      unfold wantB
      rw [if_neg (by omega), if_neg (by omega)]
      congr 1
      omega
    · rw [ha j (by omega)]
      unfold stB
      rw [if_neg (by omega)]
      exact (allFF_ext _ q).1 (lookB_zero h).2.2.1 j (by omega) (by omega)
  · have : ∀ (l : List Deed), (∀ d ∈ l, chkDeed (n * 128) d = 0) → ∀ e : Int, e = 0 → chkDs (n * 128) e l = 0 := by
      intro l
      induction l with
      | nil => intro _ e he; exact he
      | cons d r ih =>
        intro hd e he
        unfold chkDs
        rw [if_pos he]
        exact ih (fun x hx => hd x (List.mem_cons_of_mem _ hx)) _ (hd d (List.mem_cons_self ..))
    unfold chkDeeds
    rw [hG.1]
    refine this _ (fun d hd => ?_) _ hG.chk
    rw [deedsOf_map q s h0 h8, List.mem_map] at hd
    obtain ⟨k, hk, rfl⟩ := hd
    exact deedK_right q s k (by have := List.mem_range.1 hk; omega) hr

/-- A crash: all records that were there are, and this one, whole or not at all. -/
theorem crash_there {n : Nat} {F : List ByteArray} (hG : GoodF n F) {s : ByteArray} (h0 : 1 ≤ s.size) (h8 : s.size ≤ 800) {recs : List ByteArray} {q : Nat} (h : lookB ⟨(joinM F).toArray⟩ = (recs, q, 0)) (hr : q + 3 + s.size ≤ n * 128) (k : Nat) (hk : k < 4 + s.size) {G : List ByteArray} (hGG : GoodF n G)
    (hc : (∀ j, (joinM G)[j]? = ((joinM F)[j]?).map (stB q s k j)) ∨ ∃ x : UInt8, ∀ j, (joinM G)[j]? = ((joinM F)[j]?).map fun b => if j = posK q s k then stB q s k j b ^^^ ((stB q s k j b ^^^ (stB q s k j b &&& valK s k)) &&& ~~~ x) else stB q s k j b) :
    ∃ q', (lookB ⟨(joinM G).toArray⟩ = (recs, q', 0) ∨ lookB ⟨(joinM G).toArray⟩ = (recs ++ [s], q', 0)) ∧ q' ≤ q + 3 + s.size := by
  have hl := joinM_length hG.2.2.2
  rw [hG.1] at hl
  have hs1 : (⟨(joinM F).toArray⟩ : ByteArray).size = n * 128 := by rw [size_of_join, hl]
  have hs2 : (⟨(joinM G).toArray⟩ : ByteArray).size = n * 128 := by rw [size_of_join, joinM_length hGG.2.2.2, hGG.1]
  -- a byte that no torn deed is at
  have ha : ∀ j, j < n * 128 → j ≠ posK q s k → at8 ⟨(joinM G).toArray⟩ j = stB q s k j (at8 ⟨(joinM F).toArray⟩ j) := fun j hj hne => by
    obtain ⟨b, hb⟩ : ∃ b, (joinM F)[j]? = some b := ⟨_, List.getElem?_eq_getElem (by omega)⟩
    rw [at8_some hb]
    apply at8_some
    rcases hc with hc | ⟨x, hc⟩
    · rw [hc, hb]; rfl
    · rw [hc, hb]
      simp only [Option.map_some]
      rw [if_neg hne]
  have hpre : ∀ j, j < q → at8 ⟨(joinM F).toArray⟩ j = at8 ⟨(joinM G).toArray⟩ j := fun j hj => by
    rw [ha j (by omega) (by unfold posK; by_cases h1 : k = 3 + s.size ∨ k = 2 <;> simp only [h1, if_true, if_false] <;> omega)]
    unfold stB
    rw [if_neg (by omega)]
  have hpost : ∀ j, q + 3 + s.size ≤ j → j < (⟨(joinM G).toArray⟩ : ByteArray).size → at8 ⟨(joinM G).toArray⟩ j = 255 := fun j h1 h2 => by
    rw [ha j (by omega) (by unfold posK; by_cases h1 : k = 3 + s.size ∨ k = 2 <;> simp only [h1, if_true, if_false] <;> omega)]
    unfold stB
    rw [if_neg (by omega)]
    exact (allFF_ext _ q).1 (lookB_zero h).2.2.1 j (by omega) (by omega)
  -- the mark
  have hmark : at8 ⟨(joinM G).toArray⟩ (q + 2) = markB s.size k ∨ (k = 2 ∧ (at8 ⟨(joinM G).toArray⟩ (q + 2) = 255 ∨ at8 ⟨(joinM G).toArray⟩ (q + 2) = 254)) ∨ (k = 3 + s.size ∧ (at8 ⟨(joinM G).toArray⟩ (q + 2) = 254 ∨ at8 ⟨(joinM G).toArray⟩ (q + 2) = 252)) := by
    obtain ⟨b, hb⟩ : ∃ b, (joinM F)[q + 2]? = some b := ⟨_, List.getElem?_eq_getElem (by omega)⟩
    have hsb : stB q s k (q + 2) b = markB s.size k := by
      unfold stB
      rw [if_pos (by omega), if_pos rfl]
    rcases hc with hc | ⟨x, hc⟩
    · left
      apply at8_some
      rw [hc, hb]
      simp only [Option.map_some]
      rw [hsb]
    · have hg := at8_some (by rw [hc, hb]; rfl : (joinM G)[q + 2]? = some _)
      rw [hg]
      dsimp only
      rw [hsb]
      by_cases h2 : k = 2
      · right; left
        have e1 : posK q s k = q + 2 := by unfold posK; rw [if_pos (.inr h2)]
        have e2 : markB s.size k = 255 := by unfold markB; rw [if_neg (by omega), if_neg (by omega)]
        have e3 : valK s k = 254 := by unfold valK; rw [if_neg (by omega), if_pos h2]
        rw [e1, if_pos rfl, e2, e3]
        exact ⟨h2, mark_first x⟩
      by_cases h3 : k = 3 + s.size
      · right; right
        have e1 : posK q s k = q + 2 := by unfold posK; rw [if_pos (.inl h3)]
        have e2 : markB s.size k = 254 := by unfold markB; rw [if_neg (by omega), if_pos (by omega)]
        have e3 : valK s k = 252 := by unfold valK; rw [if_pos h3]
        rw [e1, if_pos rfl, e2, e3]
        exact ⟨h3, mark_last x⟩
      · left
        have e1 : posK q s k ≠ q + 2 := by unfold posK; rw [if_neg (by omega)]; omega
        rw [if_neg (fun e => e1 e.symm)]
  by_cases hlo : at8 ⟨(joinM G).toArray⟩ (q + 2) = 255
  · -- no mark yet: k is at most 2
    have hk2 : k ≤ 2 := by
      rcases hmark with h1 | ⟨h1, _⟩ | ⟨_, h1 | h1⟩
      · by_cases h3 : 3 ≤ k
        · rw [hlo] at h1
          unfold markB at h1
          rw [if_neg (by omega), if_pos h3] at h1
          exact absurd h1 (by decide)
        · omega
      · omega
      · rw [hlo] at h1; exact absurd h1 (by decide)
      · rw [hlo] at h1; exact absurd h1 (by decide)
    obtain ⟨q', h1, h2⟩ := out_head (S := ⟨(joinM F).toArray⟩) (T := ⟨(joinM G).toArray⟩) (by rw [hs1, hs2]) h hpre (fun j h1 h2 => by
      by_cases e : j = q + 2
      · rw [e]; exact hlo
      by_cases h3 : q + 3 + s.size ≤ j
      · exact hpost j h3 h2
      · rw [ha j (by omega) (by unfold posK; by_cases h4 : k = 3 + s.size ∨ k = 2 <;> simp only [h4, if_true, if_false] <;> omega)]
        unfold stB
        rw [if_pos (by omega), if_neg e, if_neg (by omega)]) (by omega)
    exact ⟨q', .inl h1, by omega⟩
  · have hk2 : 2 ≤ k := by
      rcases hmark with h1 | ⟨h1, _⟩ | ⟨h1, _⟩
      · by_cases h3 : 3 ≤ k
        · omega
        · refine absurd ?_ hlo
          rw [h1]
          unfold markB
          rw [if_neg (by omega), if_neg h3]
      · omega
      · omega
    have h0' : at8 ⟨(joinM G).toArray⟩ q = wantB s 0 := by
      rw [ha q (by omega) (by unfold posK; by_cases h4 : k = 3 + s.size ∨ k = 2 <;> simp only [h4, if_true, if_false] <;> omega)]
      unfold stB
      rw [if_pos (by omega), if_neg (by omega), if_pos (by omega), Nat.sub_self]
    have h1' : at8 ⟨(joinM G).toArray⟩ (q + 1) = wantB s 1 := by
      rw [ha (q + 1) (by omega) (by unfold posK; by_cases h4 : k = 3 + s.size ∨ k = 2 <;> simp only [h4, if_true, if_false] <;> omega)]
      unfold stB
      rw [if_pos (by omega), if_neg (by omega), if_pos (by omega), Nat.add_sub_cancel_left]
    refine ⟨q + 3 + s.size, ?_, Nat.le_refl _⟩
    by_cases hm : at8 ⟨(joinM G).toArray⟩ (q + 2) = 254
    · exact .inl (out_many (S := ⟨(joinM F).toArray⟩) (by rw [hs1, hs2]) h hpre h0 h8 (by omega) h0' h1' hm hpost)
    · have hk3 : k = 3 + s.size ∧ at8 ⟨(joinM G).toArray⟩ (q + 2) = 252 := by
        rcases hmark with h1 | ⟨_, h1 | h1⟩ | ⟨h2, h1 | h1⟩
        · unfold markB at h1
          by_cases h3 : 3 ≤ k
          · rw [if_neg (by omega), if_pos h3] at h1
            exact absurd h1 hm
          · rw [if_neg (by omega), if_neg h3] at h1
            exact absurd h1 hlo
        · exact absurd h1 hlo
        · exact absurd h1 hm
        · exact absurd h1 hm
        · exact ⟨h2, h1⟩
      refine .inr (out_whole (S := ⟨(joinM F).toArray⟩) (by rw [hs1, hs2]) h hpre h0 h8 (by omega) h0' h1' hk3.2 (fun i hi => ?_) hpost)
      rw [ha (q + 3 + i) (by omega) (by unfold posK; rw [if_pos (.inl hk3.1)]; omega)]
      unfold stB
      rw [if_pos (by omega), if_neg (by omega), if_pos (by omega)]
      unfold wantB
      rw [if_neg (by omega), if_neg (by omega)]
      congr 1
      omega

end Go.Proofs.Ythmohjgdcjafkag
