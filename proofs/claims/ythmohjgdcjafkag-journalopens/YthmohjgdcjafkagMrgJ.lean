/- Texts that are laid together. -/
import Derived.Test.YthmohjgdcjafkagMrgI
import Derived.Lib.SlBytesRow
import Derived.Test.YthmohjgdcjafkagProg
import Derived.Deep.RegionHeld3
import Derived.Deep.AppendLies

/- The contract of package flash's turn, of a turning that captures nothing and of one that captures one variable. -/
namespace Go.Proofs.Ythmohjgdcjafkag
open Go.RowKit Go.PlainAid

set_option maxRecDepth 100000

set_option maxHeartbeats 4000000 in
theorem turn_any0 (t : Nat → UInt8 → UInt8) (g cap : Nat) (c : List UInt8) (d : Deed) (K : FuncId) (hK : ∀ w x y, Sem.run Try.prog (callFunc K #[x, y]) w = .ok (.enter K #[x, y]) w) (n0 : Nat) (w : World)
    (hT : ∀ (i : Nat) (b : UInt8) W, Below n0 w W → Calls Try.prog K #[.int .i64 i, .int .u8 (b.toNat : Int)] W fun e W' => e = .returned (.int .u8 ((t i b).toNat : Int)) ∧ Below W.heap.size W W')
    (hg : n0 ≤ g) (hC : CellsB w g c) (hl : c.length ≤ 4096) (hc : c.length ≤ cap) (hm : cap ≤ 9223372036854775807) (h0 : chkDeed c.length d = 0) :
    Calls Try.prog 46 #[.slice (some ⟨g, 0, none⟩) c.length cap, d.value, .func (.func K) #[] #[]] w fun e w' => e = .returned (.tuple #[]) ∧ CellsB w' g (turnM t d c) ∧ Below g w w' := by
  have HR : Hid (∀ W, Calls Try.prog 54 #[.slice (some ⟨g, 0, none⟩) c.length cap, d.value] W fun e w' => e = .returned (.slice (some ⟨g, d.start, none⟩) d.many (cap - d.start)) ∧ Below W.heap.size W w') := fun W => reach_any g c.length cap d W hl hc hm h0
  have HBc : Hid (∀ (b : UInt8) W, Calls Try.prog 55 #[d.value, .int .u8 (b.toNat : Int)] W fun e w' => e = .returned (.int .u8 ((d.bec b).toNat : Int)) ∧ Below W.heap.size W w') := fun b W => becomes_any c.length d b W h0
  obtain ⟨_, _, _, hle, _⟩ := deed_right h0
  have hmn : d.many ≤ 128 := by unfold Deed.many; split <;> omega
  have HZ : Hid (turnK t d d.start 0 c = c) := turnK_zero t d d.start c
  have HM : Hid (turnM t d c = turnK t d d.start d.many c) := rfl
  have HS : Hid (∀ k b, c[d.start + k]? = some b → (turnK t d d.start k c).set (d.start + k) (b ^^^ t k (b ^^^ d.bec b)) = turnK t d d.start (k + 1) c) := fun k b h => turnK_next t d d.start k c b h
  have HA : Hid (∀ k, (turnK t d d.start k c)[d.start + k]? = c[d.start + k]?) := fun k => turnK_same t d d.start k c
  have HL : Hid (∀ k, (turnK t d d.start k c).length = c.length) := fun k => turnK_length t d d.start k c
  have HTT : Hid (∀ (i : Nat) (b : UInt8) W, Below n0 w W → Calls Try.prog K #[.int .i64 i, .int .u8 (b.toNat : Int)] W fun e W' => e = .returned (.int .u8 ((t i b).toNat : Int)) ∧ Below W.heap.size W W') := hT
  have hgw : g < w.heap.size := hC.lt
  have HC0 : Hid (CellsB w g c) := hC
  clear hT h0 hC
  generalize turnM t d c = TM at *
  generalize turnK t d d.start = TK at *
  generalize d.bec = bec at *
  generalize d.start = st at *
  generalize d.many = mn at *
  obtain ⟨kd, ps, vl⟩ := d
  unfold Deed.value at *
  dsimp only at *
  have HB : Hid (Below w.heap.size w (w.alloc (.cells #[.int .i64 kd, .int .i64 ps, .int .i64 vl] 40))) := (Below.refl _ _).alloc (Nat.le_refl _) _
  have HCA : Hid (CellsAt (w.alloc (.cells #[.int .i64 kd, .int .i64 ps, .int .i64 vl] 40)) w.heap.size 40 #[.int .i64 kd, .int .i64 ps, .int .i64 vl]) := CellsAt.new _ _ _
  go_enter Try.func46, Try.ntmps46
  go_wp2_with fail
  refine (HR.out _).mono ?_
  rintro e wa ⟨rfl, b2⟩
  have HB2 : Hid (Below w.heap.size w wa) := HB.out.trans (b2.mono HB.out.size)
  have HCA2 : Hid (CellsAt wa w.heap.size 40 #[.int .i64 kd, .int .i64 ps, .int .i64 vl]) := HCA.out.below b2 HCA.out.lt
  have HC2 : Hid (CellsB wa g (TK 0 c)) := by
    show CellsB wa g (TK 0 c)
    rw [HZ.out]
    exact HC0.out.kept HB2.out hgw
  have HG2 : Hid (Below g w wa) := HB2.out.mono (Nat.le_of_lt hgw)
  clear b2 HB HCA HC0 HZ HR HB2
  go_wp2
  go_loopw [14] (fun i wr => ∃ (k : Nat), k ≤ mn ∧ i = .int .i64 k ∧ Hid (CellsB wr g (TK k c)) ∧ Hid (Below g w wr) ∧ Hid (CellsAt wr w.heap.size 40 #[.int .i64 kd, .int .i64 ps, .int .i64 vl])) (fun i _ => mn - (intOf i).toNat)
  case atStart => exact ⟨0, Nat.zero_le _, rfl, HC2, HG2, HCA2⟩
  case round =>
    obtain ⟨k, hk, rfl, HC, HG, HA0⟩ := hrel
    clear HC2 HG2 HCA2
    by_cases hlt : k < mn
    · have hx0 : st + k < c.length := by omega
      obtain ⟨x, hx⟩ : ∃ x, c[st + k]? = some x := ⟨_, List.getElem?_eq_getElem hx0⟩
      have c0 := HC.out.holds (st + k) x (by rw [HA.out, hx])
      have d0 := HA0.out.cell 0
      have d1 := HA0.out.cell 1
      have d2 := HA0.out.cell 2
      simp at d0 d1 d2
      have HN : Hid ((TK k c).set (st + k) (x ^^^ t k (x ^^^ bec x)) = TK (k + 1) c) := HS.out k x hx
      have HLk : Hid ((TK k c).length = c.length) := HL.out k
      have hwl : w.heap.size < wr.heap.size := HA0.out.lt
      have hgr : g < wr.heap.size := HC.out.lt
      have HXX : Hid (c[st + k]? = some x) := hx
      clear hx
      go_wp2_with fail
      refine (HBc.out x _).mono ?_
      rintro e wb ⟨rfl, b3⟩
      have HX : Hid (bits .xor .u8 (x.toNat : Int) ((bec x).toNat : Int) = ((x ^^^ bec x).toNat : Int)) := bits_xor_u8 x (bec x)
      have HC3 : Hid (CellsB wb g (TK k c)) := HC.out.below b3
      have HG3 : Hid (Below g w wb) := HG.out.trans (b3.mono (Nat.le_of_lt hgr))
      have HA3 : Hid (CellsAt wb w.heap.size 40 #[.int .i64 kd, .int .i64 ps, .int .i64 vl]) := HA0.out.below b3 HA0.out.lt
      have hgb : g < wb.heap.size := HC3.out.lt
      clear c0 d0 d1 d2 b3 HC HG HA0
      go_wp2_with fail
      first
        | refine Calls.mono (HTT.out k (x ^^^ bec x) _ (HG3.out.mono hg)) ?_
        | (rw [HX.out]; refine Calls.mono (HTT.out k (x ^^^ bec x) _ (HG3.out.mono hg)) ?_)
      rintro e wc ⟨rfl, b4⟩
      have HY : Hid (bits .xor .u8 (x.toNat : Int) ((t k (x ^^^ bec x)).toNat : Int) = ((x ^^^ t k (x ^^^ bec x)).toNat : Int)) := bits_xor_u8 x _
      have HC4 : Hid (CellsB wc g (TK k c)) := HC3.out.below b4
      have HG4 : Hid (Below g w wc) := HG3.out.trans (b4.mono (Nat.le_of_lt hgb))
      have HA4 : Hid (CellsAt wc w.heap.size 40 #[.int .i64 kd, .int .i64 ps, .int .i64 vl]) := HA3.out.below b4 HA3.out.lt
      have f0 := HC4.out.free (st + k) (by rw [HLk.out]; exact hx0)
      have g0 := HC4.out.holds (st + k) x (by rw [HA.out]; exact HXX.out)
      clear b4 HC3 HG3 HA3
      generalize t k (x ^^^ bec x) = y at *
      go_wp2
      have HC5 := HC4.out.set (st + k) (x ^^^ y) (by rw [HLk.out]; exact hx0)
      rw [HN.out, ← HY.out] at HC5
      exact ⟨⟨k + 1, by omega, by go_num, HC5, HG4.out.setCell (Nat.le_refl _) _, HA4.out.kept (grown_set wc g (st + k) _) (by intro e; injection e with e; omega)⟩, by simp [intOf]; omega⟩
    · obtain rfl : k = mn := by omega
      go_wp2
      go_end0
      exact ⟨rfl, by rw [HM.out]; exact HC.out, HG.out⟩

set_option maxHeartbeats 4000000 in
theorem turn_any1 (t : Nat → UInt8 → UInt8) (g cap : Nat) (c : List UInt8) (d : Deed) (K : FuncId) (cp : Value) (hK : ∀ w x y, Sem.run Try.prog (callFunc K #[x, y, cp]) w = .ok (.enter K #[x, y, cp]) w) (n0 : Nat) (w : World)
    (hT : ∀ (i : Nat) (b : UInt8) W, Below n0 w W → Calls Try.prog K #[.int .i64 i, .int .u8 (b.toNat : Int), cp] W fun e W' => e = .returned (.int .u8 ((t i b).toNat : Int)) ∧ Below W.heap.size W W')
    (hg : n0 ≤ g) (hC : CellsB w g c) (hl : c.length ≤ 4096) (hc : c.length ≤ cap) (hm : cap ≤ 9223372036854775807) (h0 : chkDeed c.length d = 0) :
    Calls Try.prog 46 #[.slice (some ⟨g, 0, none⟩) c.length cap, d.value, .func (.func K) #[] #[cp]] w fun e w' => e = .returned (.tuple #[]) ∧ CellsB w' g (turnM t d c) ∧ Below g w w' := by
  have HR : Hid (∀ W, Calls Try.prog 54 #[.slice (some ⟨g, 0, none⟩) c.length cap, d.value] W fun e w' => e = .returned (.slice (some ⟨g, d.start, none⟩) d.many (cap - d.start)) ∧ Below W.heap.size W w') := fun W => reach_any g c.length cap d W hl hc hm h0
  have HBc : Hid (∀ (b : UInt8) W, Calls Try.prog 55 #[d.value, .int .u8 (b.toNat : Int)] W fun e w' => e = .returned (.int .u8 ((d.bec b).toNat : Int)) ∧ Below W.heap.size W w') := fun b W => becomes_any c.length d b W h0
  obtain ⟨_, _, _, hle, _⟩ := deed_right h0
  have hmn : d.many ≤ 128 := by unfold Deed.many; split <;> omega
  have HZ : Hid (turnK t d d.start 0 c = c) := turnK_zero t d d.start c
  have HM : Hid (turnM t d c = turnK t d d.start d.many c) := rfl
  have HS : Hid (∀ k b, c[d.start + k]? = some b → (turnK t d d.start k c).set (d.start + k) (b ^^^ t k (b ^^^ d.bec b)) = turnK t d d.start (k + 1) c) := fun k b h => turnK_next t d d.start k c b h
  have HA : Hid (∀ k, (turnK t d d.start k c)[d.start + k]? = c[d.start + k]?) := fun k => turnK_same t d d.start k c
  have HL : Hid (∀ k, (turnK t d d.start k c).length = c.length) := fun k => turnK_length t d d.start k c
  have HTT : Hid (∀ (i : Nat) (b : UInt8) W, Below n0 w W → Calls Try.prog K #[.int .i64 i, .int .u8 (b.toNat : Int), cp] W fun e W' => e = .returned (.int .u8 ((t i b).toNat : Int)) ∧ Below W.heap.size W W') := hT
  have hgw : g < w.heap.size := hC.lt
  have HC0 : Hid (CellsB w g c) := hC
  clear hT h0 hC
  generalize turnM t d c = TM at *
  generalize turnK t d d.start = TK at *
  generalize d.bec = bec at *
  generalize d.start = st at *
  generalize d.many = mn at *
  obtain ⟨kd, ps, vl⟩ := d
  unfold Deed.value at *
  dsimp only at *
  have HB : Hid (Below w.heap.size w (w.alloc (.cells #[.int .i64 kd, .int .i64 ps, .int .i64 vl] 40))) := (Below.refl _ _).alloc (Nat.le_refl _) _
  have HCA : Hid (CellsAt (w.alloc (.cells #[.int .i64 kd, .int .i64 ps, .int .i64 vl] 40)) w.heap.size 40 #[.int .i64 kd, .int .i64 ps, .int .i64 vl]) := CellsAt.new _ _ _
  go_enter Try.func46, Try.ntmps46
  go_wp2_with fail
  refine (HR.out _).mono ?_
  rintro e wa ⟨rfl, b2⟩
  have HB2 : Hid (Below w.heap.size w wa) := HB.out.trans (b2.mono HB.out.size)
  have HCA2 : Hid (CellsAt wa w.heap.size 40 #[.int .i64 kd, .int .i64 ps, .int .i64 vl]) := HCA.out.below b2 HCA.out.lt
  have HC2 : Hid (CellsB wa g (TK 0 c)) := by
    show CellsB wa g (TK 0 c)
    rw [HZ.out]
    exact HC0.out.kept HB2.out hgw
  have HG2 : Hid (Below g w wa) := HB2.out.mono (Nat.le_of_lt hgw)
  clear b2 HB HCA HC0 HZ HR HB2
  go_wp2
  go_loopw [14] (fun i wr => ∃ (k : Nat), k ≤ mn ∧ i = .int .i64 k ∧ Hid (CellsB wr g (TK k c)) ∧ Hid (Below g w wr) ∧ Hid (CellsAt wr w.heap.size 40 #[.int .i64 kd, .int .i64 ps, .int .i64 vl])) (fun i _ => mn - (intOf i).toNat)
  case atStart => exact ⟨0, Nat.zero_le _, rfl, HC2, HG2, HCA2⟩
  case round =>
    obtain ⟨k, hk, rfl, HC, HG, HA0⟩ := hrel
    clear HC2 HG2 HCA2
    by_cases hlt : k < mn
    · have hx0 : st + k < c.length := by omega
      obtain ⟨x, hx⟩ : ∃ x, c[st + k]? = some x := ⟨_, List.getElem?_eq_getElem hx0⟩
      have c0 := HC.out.holds (st + k) x (by rw [HA.out, hx])
      have d0 := HA0.out.cell 0
      have d1 := HA0.out.cell 1
      have d2 := HA0.out.cell 2
      simp at d0 d1 d2
      have HN : Hid ((TK k c).set (st + k) (x ^^^ t k (x ^^^ bec x)) = TK (k + 1) c) := HS.out k x hx
      have HLk : Hid ((TK k c).length = c.length) := HL.out k
      have hwl : w.heap.size < wr.heap.size := HA0.out.lt
      have hgr : g < wr.heap.size := HC.out.lt
      have HXX : Hid (c[st + k]? = some x) := hx
      clear hx
      go_wp2_with fail
      refine (HBc.out x _).mono ?_
      rintro e wb ⟨rfl, b3⟩
      have HX : Hid (bits .xor .u8 (x.toNat : Int) ((bec x).toNat : Int) = ((x ^^^ bec x).toNat : Int)) := bits_xor_u8 x (bec x)
      have HC3 : Hid (CellsB wb g (TK k c)) := HC.out.below b3
      have HG3 : Hid (Below g w wb) := HG.out.trans (b3.mono (Nat.le_of_lt hgr))
      have HA3 : Hid (CellsAt wb w.heap.size 40 #[.int .i64 kd, .int .i64 ps, .int .i64 vl]) := HA0.out.below b3 HA0.out.lt
      have hgb : g < wb.heap.size := HC3.out.lt
      clear c0 d0 d1 d2 b3 HC HG HA0
      go_wp2_with fail
      first
        | refine Calls.mono (HTT.out k (x ^^^ bec x) _ (HG3.out.mono hg)) ?_
        | (rw [HX.out]; refine Calls.mono (HTT.out k (x ^^^ bec x) _ (HG3.out.mono hg)) ?_)
      rintro e wc ⟨rfl, b4⟩
      have HY : Hid (bits .xor .u8 (x.toNat : Int) ((t k (x ^^^ bec x)).toNat : Int) = ((x ^^^ t k (x ^^^ bec x)).toNat : Int)) := bits_xor_u8 x _
      have HC4 : Hid (CellsB wc g (TK k c)) := HC3.out.below b4
      have HG4 : Hid (Below g w wc) := HG3.out.trans (b4.mono (Nat.le_of_lt hgb))
      have HA4 : Hid (CellsAt wc w.heap.size 40 #[.int .i64 kd, .int .i64 ps, .int .i64 vl]) := HA3.out.below b4 HA3.out.lt
      have f0 := HC4.out.free (st + k) (by rw [HLk.out]; exact hx0)
      have g0 := HC4.out.holds (st + k) x (by rw [HA.out]; exact HXX.out)
      clear b4 HC3 HG3 HA3
      generalize t k (x ^^^ bec x) = y at *
      go_wp2
      have HC5 := HC4.out.set (st + k) (x ^^^ y) (by rw [HLk.out]; exact hx0)
      rw [HN.out, ← HY.out] at HC5
      exact ⟨⟨k + 1, by omega, by go_num, HC5, HG4.out.setCell (Nat.le_refl _) _, HA4.out.kept (grown_set wc g (st + k) _) (by intro e; injection e with e; omega)⟩, by simp [intOf]; omega⟩
    · obtain rfl : k = mn := by omega
      go_wp2
      go_end0
      exact ⟨rfl, by rw [HM.out]; exact HC.out, HG.out⟩

end Go.Proofs.Ythmohjgdcjafkag

/- The contract of package flash's cells.flash. -/
namespace Go.Proofs.Ythmohjgdcjafkag
open Go.RowKit Go.PlainAid

set_option maxRecDepth 100000

theorem infoStrF : (Try.prog.info? 9).map (fun i => (i.zero, i.size, i.bytes)) = some (some (.string ⟨#[]⟩), 1, 16) := by kernel_rfl
theorem infoStrF_parts : ∃ i, Try.prog.info? 9 = some i ∧ i.zero = some (.string ⟨#[]⟩) ∧ i.size = 1 ∧ i.bytes = 16 := by
  have h := infoStrF
  cases hi : Try.prog.info? 9 with
  | none => rw [hi] at h; cases h
  | some i =>
    rw [hi] at h
    simp at h
    exact ⟨i, rfl, h.1, h.2.1, h.2.2⟩
theorem made_str (n : Nat) : (madeCells (Value.string ⟨#[]⟩).cells (n * 1)).toList = List.replicate n (.string ⟨#[]⟩) := by
  apply List.ext_getElem?
  intro i
  simp only [madeCells, Value.cells, List.getElem?_replicate]
  by_cases h : i < n
  · simp [h, Nat.mod_one]
  · simp [h]
theorem own_frozen {W : World} {base g n cap : Nat} {e : TypeId} {xs : List Value} (h : W.ownsRow base e 1 (.slice (some ⟨g, 0, none⟩) n cap) n xs) (j : Nat) : W.frozen? ⟨g, j, none⟩ = false := by
  rcases h.2 with ⟨e, _⟩ | ⟨g', cap', cur, e, _, hb, _⟩
  · cases e
  · injection e with e _ _
    injection e with e
    injection e with e
    subst e
    exact CellsAt.frozen (cs := cur) hb j
theorem own_cell {W : World} {base g n cap : Nat} {e : TypeId} {xs : List Value} (h : W.ownsRow base e 1 (.slice (some ⟨g, 0, none⟩) n cap) n xs) (j : Nat) (u : Value) (hu : xs[j]? = some u) : W.cell? ⟨g, j, none⟩ = some u := by
  have := h.cells (g := g) rfl j u hu
  have hadd : (⟨g, 0, none⟩ : Addr).add j = ⟨g, j, none⟩ := by unfold Addr.add; split <;> simp_all
  rwa [hadd] at this

/-- Rows that are filled from the front. -/
def filled (n k : Nat) (l : List ByteArray) : List Value := (l.take k).map Value.string ++ List.replicate (n - k) (.string ⟨#[]⟩)
theorem filled_next (n k : Nat) (l : List ByteArray) (x : ByteArray) (hk : k < n) (hx : l[k]? = some x) : (filled n k l).set k (.string x) = filled n (k + 1) l := by
  have hl := (List.getElem?_eq_some_iff.1 hx).1
  have e1 : (l.take (k + 1)).map Value.string = (l.take k).map Value.string ++ [.string x] := by
    rw [List.take_add_one, hx]; simp
  unfold filled
  rw [e1, List.set_append_right _ _ (by simp; omega)]
  have e2 : k - ((l.take k).map Value.string).length = 0 := by simp; omega
  rw [e2, show n - k = (n - (k + 1)) + 1 by omega, List.replicate_succ, List.set_cons_zero, List.append_assoc]
  rfl
theorem filled_all (n : Nat) (l : List ByteArray) (h : l.length = n) : filled n n l = l.flatMap strC := by
  unfold filled
  rw [Nat.sub_self, List.take_of_length_le (by omega), List.replicate_zero, List.append_nil]
  clear h
  induction l with
  | nil => rfl
  | cons x l ih => rw [List.map_cons, List.flatMap_cons, ih]; rfl

theorem blockAt_size {c : List UInt8} {i : Nat} (h : (i + 1) * 128 ≤ c.length) : ((c.drop (i * 128)).take 128).length = 128 := by
  rw [List.length_take, List.length_drop]; omega
theorem convBlock {W : World} {g : Nat} {c : List UInt8} (h : CellsB W g c) (i cap : Nat) (hi : (i + 1) * 128 ≤ c.length) :
    (convert 63 9 (.slice (some ⟨g, i * 128, none⟩) 128 cap)).run Try.prog W = .ok (.string (blockAt c i)) W := by
  have hl := blockAt_size hi
  have := run_convert_bytes_back (P := Try.prog) W 63 9 5 ⟨g, i * 128, none⟩ cap ((c.drop (i * 128)).take 128) Try.underlying63 Try.underlying5 Try.underlying9 (fun j hj => by
    have hadd : (⟨g, i * 128, none⟩ : Addr).add j = ⟨g, i * 128 + j, none⟩ := by unfold Addr.add; split <;> simp_all
    rw [hadd]
    apply h.holds
    rw [hl] at hj
    have : ((c.drop (i * 128)).take 128)[j]? = some ((c.drop (i * 128)).take 128)[j] := List.getElem?_eq_getElem _
    rw [List.getElem?_take_of_lt hj, List.getElem?_drop] at this
    exact this)
  rw [hl] at this
  exact this

set_option maxHeartbeats 4000000 in
theorem flashOf_any (g cap : Nat) (c : List UInt8) (w : World) (hC : CellsB w g c) (hl : c.length ≤ 4096) (hc : c.length ≤ cap) (hm : cap ≤ 9223372036854775807) :
    Calls Try.prog 32 #[.slice (some ⟨g, 0, none⟩) c.length cap] w fun e w' => (∃ v, e = .returned (.agg #[v]) ∧ w'.ownsRow w.heap.size 9 1 v (blocksM c).length ((blocksM c).flatMap strC)) ∧ Below w.heap.size w w' := by
  obtain ⟨i0, hi0, hz0, hz1, hz2⟩ := infoStrF_parts
  have e128 : ((c.length : Int) / 128) = ((c.length / 128 : Nat) : Int) := by omega
  have HL : Hid ((blocksM c).length = c.length / 128) := by show (blocksM c).length = _; unfold blocksM; simp
  have HX : Hid (∀ k, k < c.length / 128 → (blocksM c)[k]? = some (blockAt c k)) := fun k hk => by
    unfold blocksM
    rw [List.getElem?_map, List.getElem?_range hk]; rfl
  have HV : Hid (∀ k W cp, k < c.length / 128 → CellsB W g c → (convert 63 9 (.slice (some ⟨g, k * 128, none⟩) 128 cp)).run Try.prog W = .ok (.string (blockAt c k)) W) := fun k W cp hk h => convBlock h k cp (by omega)
  have hq : c.length / 128 * 128 ≤ c.length := Nat.div_mul_le_self _ _
  have hq2 : c.length / 128 ≤ 32 := by omega
  have hgw : g < w.heap.size := hC.lt
  have HC : Hid (CellsB w g c) := hC
  generalize blocksM c = BL at *
  generalize c.length / 128 = n at *
  clear hC
  go_enter Try.func32, Try.ntmps32
  go_wp2_with (at_make; refine wpList_make_full _ rfl _ _ _ rfl (w.heap.size + 1) 9 i0 _ 1 Try.underlying22 hi0 hz0 hz1 .i64 .i64 _ _ n rfl (by first | rfl | exact e128 ▸ rfl) (by first | rfl | exact e128 ▸ rfl) rfl (by rw [hz2]; omega) (by unfold maxLen; omega) (by simp) ?_; intro w3 hown3 hgr3)
  rw [made_str, World.size_alloc] at hown3
  have hf0 : List.replicate n (Value.string ⟨#[]⟩) = filled n 0 BL := by unfold filled; rw [List.take_zero, Nat.sub_zero]; rfl
  rw [hf0] at hown3
  have HO3 : Hid (w3.ownsRow (w.heap.size + 1) 9 1 (.slice (some ⟨w.heap.size + 1, 0, none⟩) n n) n (filled n 0 BL)) := hown3
  have HB3 : Hid (Below w.heap.size w w3) := ((Below.refl _ _).alloc (Nat.le_refl _) _).grown hgr3 (by simp) (fun k hk => by cases hk)
  have HR3 : Hid (CellsAt w3 w.heap.size 26 #[.slice none 0 0]) := (CellsAt.new w _ _).kept hgr3 (by simp)
  clear hown3 hgr3 hf0
  go_loopw [11] (fun i wr => ∃ (k : Nat), k ≤ n ∧ i = .int .i64 k ∧ Hid (wr.ownsRow (w.heap.size + 1) 9 1 (.slice (some ⟨w.heap.size + 1, 0, none⟩) n n) n (filled n k BL)) ∧ Hid (Below w.heap.size w wr) ∧ Hid (CellsAt wr w.heap.size 26 #[.slice none 0 0])) (fun i _ => n - (intOf i).toNat)
  case atStart => exact ⟨0, Nat.zero_le _, rfl, HO3, HB3, HR3⟩
  case round =>
    obtain ⟨k, hk, rfl, HO, HB, HR⟩ := hrel
    clear HO3 HB3 HR3
    by_cases hlt : k < n
    · have hcv := HV.out k wr (cap - k * 128) hlt (HC.out.kept HB.out hgw)
      have HN : Hid ((filled n k BL).set k (.string (blockAt c k)) = filled n (k + 1) BL) := filled_next n k BL _ hlt (HX.out k hlt)
      have hfx : (filled n k BL)[k]? = some (.string ⟨#[]⟩) := by
        unfold filled
        have : ((BL.take k).map Value.string).length = k := by simp; have := HL.out; omega
        rw [List.getElem?_append_right (by omega), this, Nat.sub_self, List.getElem?_replicate, if_pos (by omega)]
      have c0 := own_cell HO.out k _ hfx
      have f0 := own_frozen HO.out k
      have e1 : IntKind.i64.wrap ((k : Int) * 128) = ((k * 128 : Nat) : Int) := by rw [i64_is]; unfold wrap64; omega
      have hkq : k * 128 + 128 ≤ c.length := by omega
      have hne : ¬ (cap = k * 128) := by omega
      clear hfx
      generalize blockAt c k = x at *
      generalize k * 128 = q at *
      go_wp2
      obtain ⟨o1, g1⟩ := HO.out.stored k (.string x)
      rw [HN.out] at o1
      exact ⟨⟨k + 1, by omega, by go_num, o1, HB.out.setCell (by simp) _, HR.out.kept g1 (by simp)⟩, by simp [intOf]; omega⟩
    · obtain rfl : k = n := by omega
      have c0 := HR.out.cell 0
      have f0 := HR.out.frozen 0
      simp at c0
      go_wp2
      have hF := HR.out.set 0 (.slice (some ⟨w.heap.size + 1, 0, none⟩) k k)
      simp only [List.setIfInBounds_toArray, List.set_cons_zero] at hF
      refine bodyPost_ret (results_cell_row rfl _ _ _ _ _ _ _ rfl hF Try.underlying26 rfl (by kernel_rfl)) rfl ?_
      have ho := HO.out.kept (grown_set wr w.heap.size 0 (.slice (some ⟨w.heap.size + 1, 0, none⟩) k k)) (.inr (by simp [Value.ownBlock]))
      rw [filled_all k BL HL.out] at ho
      refine ⟨⟨_, rfl, ?_⟩, HB.out.setCell (Nat.le_refl _) _⟩
      rw [HL.out]
      exact ⟨ho.1, ho.2.imp id (fun ⟨g, cap, cur, h1, h2, h3⟩ => ⟨g, cap, cur, h1, by omega, h3⟩)⟩

end Go.Proofs.Ythmohjgdcjafkag

/- A region that draws its order, and whose last operation writes what was read before: loads may be taken first under a condition that need not hold behind the last. -/
namespace Go.Proofs.Ythmohjgdcjafkag


section
variable {P : Program} {ops : Array Oper} {Q : Exit → Act → World → Prop} {md : Region.Mode} {S : World → Prop}

/-- Whatever order is picked; S holds behind each operation but number x. -/
def wpL (P : Program) (md : Region.Mode) (ops : Array Oper) (Q : Exit → Act → World → Prop) (S : World → Prop) (x : Nat) : Nat → Array Bool → Act → World → Prop
  | 0, listed, a, w => Region.ready md ops listed = [] ∧ Q .normal a w
  | fuel + 1, listed, a, w =>
    (Region.ready md ops listed = [] → Q .normal a w) ∧
    ∀ i ∈ Region.ready md ops listed, wpOp P ops Q i (fun a' w' => (i ≠ x → S w') ∧ wpL P md ops Q S x fuel (listed.setIfInBounds i true) a' w') a w

theorem wpAny_of_L {x : Nat} : ∀ (fuel : Nat) (listed : Array Bool) (a : Act) (w : World), wpL P md ops Q S x fuel listed a w → wpAny P md ops Q fuel listed a w
  | 0, _, _, _, h => h
  | fuel + 1, _, _, _, h => ⟨h.1, fun i hi => wpOp_mono (fun a' w' h' => wpAny_of_L fuel _ a' w' h'.2) (h.2 i hi)⟩

/-- What has come up has come up behind all that it waits for. -/
def Closed (md : Region.Mode) (ops : Array Oper) (listed : Array Bool) : Prop := ∀ j o, listed.getD j false = true → ops[j]? = some o → ∀ e ∈ o.after, Region.binds md e = true → listed.getD e.on false = true

theorem Closed.set {listed : Array Bool} {j : Nat} (h : Closed md ops listed) (hj : j ∈ Region.ready md ops listed) : Closed md ops (listed.setIfInBounds j true) := by
  intro k o hk ho e he hb
  obtain ⟨_, oj, hoj, hall⟩ := mem_ready.1 hj
  by_cases hjk : j = k
  · subst hjk
    rw [hoj] at ho
    injection ho with ho
    subst ho
    exact getD_set_true (hall e he hb)
  · rw [getD_set_ne false hjk] at hk
    exact getD_set_true (h k o hk ho e he hb)

/-- Each operation ahead of x is waited for by a later one, up to x. -/
def Covers (md : Region.Mode) (ops : Array Oper) (x : Nat) : Prop := ∀ k, k < x → ∃ j o e, k < j ∧ j ≤ x ∧ ops[j]? = some o ∧ e ∈ o.after ∧ Region.binds md e = true ∧ e.on = k

theorem covers_all {x : Nat} {listed : Array Bool} (hc : Covers md ops x) (hl : Closed md ops listed) (hx : x ∈ Region.ready md ops listed) : ∀ k, k < x → listed.getD k false = true := by
  obtain ⟨_, ox, hox, hall⟩ := mem_ready.1 hx
  have key : ∀ m k, x - k ≤ m → k < x → listed.getD k false = true := by
    intro m
    induction m with
    | zero => intro k h1 h2; omega
    | succ m ih =>
      intro k h1 h2
      obtain ⟨j, o, e, h3, h4, h5, h6, h7, rfl⟩ := hc k h2
      by_cases hjx : j = x
      · subst hjx
        rw [hox] at h5
        injection h5 with h5
        subst h5
        exact hall e h6 h7
      · exact hl j o (ih j (by omega) (by omega)) h5 e h6 h7
  exact fun k hk => key (x - k) k (Nat.le_refl _) hk

theorem wpL_first {i x : Nat} {oi : Oper} {v : Value} (hi : ops[i]? = some oi) (hsel : ∀ (j : Nat) (o : Oper) cs b, ops[j]? = some o → o.op ≠ .select cs b)
    (hQ : ∀ c a w, Q (.panic c) (a.put oi.dst v) w → Q (.panic c) a w) (hc : Covers md ops x) (hix : i < x) :
    ∀ (fuel : Nat) (listed : Array Bool) (a : Act) (w : World),
      (∀ j oj, ops[j]? = some oj → j ≠ i → listed.getD j true = false → (∀ e ∈ oj.after, Region.binds md e = true → e.on ≠ i) → oi.apart ops oj = true) →
      Closed md ops listed → i ∈ Region.ready md ops listed → YieldsIf P ops S oi v a → S w →
      wpL P md ops Q S x fuel (listed.setIfInBounds i true) (a.put oi.dst v) w → wpL P md ops Q S x (fuel + 1) listed a w := by
  intro fuel
  induction fuel with
  | zero =>
    intro listed a w _ _ hr hy hS H
    refine ⟨fun h => (by rw [h] at hr; cases hr), fun j hj => ?_⟩
    by_cases hji : j = i
    · subst hji; exact hy.wpOp hi hS ⟨fun _ => hS, H⟩
    · have := ready_mono hj hji
      rw [H.1] at this
      cases this
  | succ fuel ih =>
    intro listed a w hfree hcl hr hy hS H
    refine ⟨fun h => (by rw [h] at hr; cases hr), fun j hj => ?_⟩
    by_cases hji : j = i
    · subst hji; exact hy.wpOp hi hS ⟨fun _ => hS, H⟩
    · have hi0 : listed.getD i true = false := (mem_ready.1 hr).1
      have hi1 : listed.getD i false = false := by
        rcases Nat.lt_or_ge i listed.size with h' | h'
        · simpa [h'] using hi0
        · simp [Array.getElem?_eq_none h'] at hi0
      have hjx : j ≠ x := fun e => by
        subst e
        have := covers_all hc hcl hj i hix
        rw [hi1] at this
        cases this
      have h1 := H.2 j (ready_mono hj hji)
      obtain ⟨hjun, oj, hoj, hall⟩ := mem_ready.1 hj
      have hnot : ∀ e ∈ oj.after, Region.binds md e = true → e.on ≠ i := fun e he hb heq => by
        have h2 := hall e he hb
        rw [heq, hi1] at h2
        cases h2
      have h2 := wpOp_putIf hoj (hfree j oj hoj hji hjun hnot) (fun cs b => hsel i oi cs b hi) (fun cs b => hsel j oj cs b hoj) hQ hy h1
      have hfree' : ∀ k ok, ops[k]? = some ok → k ≠ i → (listed.setIfInBounds j true).getD k true = false →
          (∀ e ∈ ok.after, Region.binds md e = true → e.on ≠ i) → oi.apart ops ok = true := fun k ok hk hki hun hno => by
        refine hfree k ok hk hki ?_ hno
        by_cases hjk : j = k
        · subst hjk; exact hjun
        · rw [getD_set_ne true hjk] at hun; exact hun
      refine wpOp_mono (fun a' w' h3 => ⟨h3.2.1, ih (listed.setIfInBounds j true) a' w' hfree' (hcl.set hj) (ready_mono hr (Ne.symm hji)) h3.1 (h3.2.1 hjx) ?_⟩) h2
      rw [Array.setIfInBounds_comm _ _ hji]
      exact h3.2.2

def closedB (md : Region.Mode) (ops : Array Oper) (listed : Array Bool) : Bool :=
  (List.range listed.size).all fun j => !listed.getD j false || ((ops[j]?).map (·.after.all fun e => !Region.binds md e || listed.getD e.on false)).getD true
theorem closedB_spec {listed : Array Bool} (h : closedB md ops listed = true) : Closed md ops listed := by
  intro j o hj ho e he hb
  have hlt : j < listed.size := by
    rcases Nat.lt_or_ge j listed.size with h' | h'
    · exact h'
    · simp [Array.getElem?_eq_none h'] at hj
  simp only [closedB, List.all_eq_true, List.mem_range] at h
  have h1 := h j hlt
  rw [hj, ho] at h1
  simp only [Bool.not_true, Bool.false_or, Option.map_some, Option.getD_some, Array.all_eq_true_iff_forall_mem] at h1
  have h2 := h1 e he
  rw [hb] at h2
  simpa using h2
def coversB (md : Region.Mode) (ops : Array Oper) (x : Nat) : Bool :=
  (List.range x).all fun k => (List.range (x + 1)).any fun j => decide (k < j) && ((ops[j]?).map (·.after.any fun e => Region.binds md e && e.on == k)).getD false
theorem coversB_spec {x : Nat} (h : coversB md ops x = true) : Covers md ops x := by
  intro k hk
  simp only [coversB, List.all_eq_true, List.mem_range] at h
  have h1 := h k hk
  simp only [List.any_eq_true, List.mem_range, Bool.and_eq_true, decide_eq_true_eq] at h1
  obtain ⟨j, hj, hkj, hh⟩ := h1
  cases ho : ops[j]? with
  | none => rw [ho] at hh; simp at hh
  | some o =>
    rw [ho] at hh
    simp only [Option.map_some, Option.getD_some] at hh
    obtain ⟨e, he, hb⟩ := Array.any_eq_true'.1 hh
    simp only [Bool.and_eq_true, beq_iff_eq] at hb
    exact ⟨j, o, e, hkj, by omega, ho, he, hb.1, hb.2⟩

/-- Number i is taken first. -/
theorem wpL_take (i : Nat) {x : Nat} (d : Nat) (v : Value) {oi : Oper} {fuel : Nat} {listed : Array Bool} {tm : Array Value} {df : List Deferred} {w : World} (hi : ops[i]? = some oi)
    (hb : (Region.noSelect ops && (Region.free md ops listed i && ((Region.ready md ops listed).contains i && (closedB md ops listed && (coversB md ops x && decide (i < x)))))) = true)
    (hQ : ∀ c a w, Q (.panic c) (a.put oi.dst v) w → Q (.panic c) a w) (hS : S w) (hd : oi.dst = some d) (hg : oi.guard = none) (hy : ∀ w, S w → (execOp (Act.eval ⟨tm, df⟩) oi).run P w = .ok (.value v) w)
    (h : wpL P md ops Q S x fuel (listed.setIfInBounds i true) ⟨tm.setIfInBounds d v, df⟩ w) : wpL P md ops Q S x (fuel + 1) listed ⟨tm, df⟩ w := by
  simp only [Bool.and_eq_true, decide_eq_true_eq] at hb
  obtain ⟨h1, h2, h3, h4, h5, h6⟩ := hb
  refine wpL_first hi (Region.noSelect_spec h1) hQ (coversB_spec h5) h6 fuel listed ⟨tm, df⟩ w (Region.free_spec hi h2) (closedB_spec h4) (by simpa using h3) (.inl ⟨by simp [Region.wanted, hg], hy⟩) hS ?_
  rw [hd]
  exact h

/-- Number i alone may come up. -/
theorem wpL_step {i x : Nat} {o : Oper} {fuel : Nat} {listed : Array Bool} {a : Act} {w : World} (ho : ops[i]? = some o) (hr : Region.ready md ops listed = [i])
    (h : ∀ K' : Act → World → Prop, Shut (∀ a w, S w → (S w → wpL P md ops Q S x fuel (listed.setIfInBounds i true) a w) → K' a w) → if Region.wanted o (yielded ops a.tmps) = true then Oper.wp P o a w K' Q else K' (a.put o.dst undef) w) :
    wpL P md ops Q S x (fuel + 1) listed a w := by
  refine ⟨fun h0 => (by rw [hr] at h0; cases h0), fun j hj => ?_⟩
  rw [hr] at hj
  obtain rfl : j = i := by simpa using hj
  exact wpOp_step ho (fun K' hK => h K' (fun a w hS hW => hK a w ⟨fun _ => hS, hW hS⟩))

/-- One of two comes up. -/
theorem wpL_two {i j x : Nat} {o p : Oper} {fuel : Nat} {listed : Array Bool} {a : Act} {w : World} (ho : ops[i]? = some o) (hp : ops[j]? = some p) (hr : Region.ready md ops listed = [i, j])
    (h : ∀ K' : Act → World → Prop, Shut (∀ a w, S w → (S w → wpL P md ops Q S x fuel (listed.setIfInBounds i true) a w) → K' a w) → if Region.wanted o (yielded ops a.tmps) = true then Oper.wp P o a w K' Q else K' (a.put o.dst undef) w)
    (h2 : ∀ K' : Act → World → Prop, Shut (∀ a w, S w → (S w → wpL P md ops Q S x fuel (listed.setIfInBounds j true) a w) → K' a w) → if Region.wanted p (yielded ops a.tmps) = true then Oper.wp P p a w K' Q else K' (a.put p.dst undef) w) :
    wpL P md ops Q S x (fuel + 1) listed a w := by
  refine ⟨fun h0 => (by rw [hr] at h0; cases h0), fun k hk => ?_⟩
  rw [hr] at hk
  rcases List.mem_cons.1 hk with rfl | hk
  · exact wpOp_step ho (fun K' hK => h K' (fun a w hS hW => hK a w ⟨fun _ => hS, hW hS⟩))
  · obtain rfl : k = j := by simpa using hk
    exact wpOp_step hp (fun K' hK => h2 K' (fun a w hS hW => hK a w ⟨fun _ => hS, hW hS⟩))

/-- The last one. -/
theorem wpL_last {x : Nat} {o : Oper} {fuel : Nat} {listed : Array Bool} {a : Act} {w : World} (ho : ops[x]? = some o) (hr : Region.ready md ops listed = [x]) (hr2 : Region.ready md ops (listed.setIfInBounds x true) = [])
    (h : ∀ K' : Act → World → Prop, Shut (∀ a w, Q .normal a w → K' a w) → if Region.wanted o (yielded ops a.tmps) = true then Oper.wp P o a w K' Q else K' (a.put o.dst undef) w) :
    wpL P md ops Q S x (fuel + 1) listed a w := by
  refine ⟨fun h0 => (by rw [hr] at h0; cases h0), fun j hj => ?_⟩
  rw [hr] at hj
  obtain rfl : j = x := by simpa using hj
  refine wpOp_step ho (fun K' hK => h K' (fun a w hq => hK a w ⟨fun h => absurd rfl h, ?_⟩))
  cases fuel with
  | zero => exact ⟨hr2, hq⟩
  | succ n => exact ⟨fun _ => hq, by rw [hr2]; simp⟩

/-- The beginning. -/
theorem wp_region_L {x : Nat} {id : Nat} {a : Act} {w : World} (hm : P.follows .mixedOrders = true)
    (h : wpL P .any ops Q S x ops.size (Array.replicate ops.size false) a w.drew) : (Code.region id ops true).wp P Q a w :=
  wp_region_any hm (wpAny_of_L _ _ _ _ h)

end

end Go.Proofs.Ythmohjgdcjafkag
