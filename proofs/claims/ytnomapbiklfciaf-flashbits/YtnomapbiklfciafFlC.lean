/- The contract of package flash's turn, of a turning that captures nothing and of one that captures one variable. -/
import Derived.Test.YtnomapbiklfciafFlB
namespace Go.Proofs.Ytnomapbiklfciaf
open Go.RowKit Go.PlainAid

set_option maxRecDepth 100000

set_option maxHeartbeats 4000000 in
theorem turn_any0 (t : Nat → UInt8 → UInt8) (g cap : Nat) (c : List UInt8) (d : Deed) (K : FuncId) (hK : ∀ w x y, Sem.run Try.prog (callFunc K #[x, y]) w = .ok (.enter K #[x, y]) w) (n0 : Nat) (w : World)
    (hT : ∀ (i : Nat) (b : UInt8) W, Below n0 w W → Calls Try.prog K #[.int .i64 i, .int .u8 (b.toNat : Int)] W fun e W' => e = .returned (.int .u8 ((t i b).toNat : Int)) ∧ Below W.heap.size W W')
    (hg : n0 ≤ g) (hC : CellsB w g c) (hl : c.length ≤ 4096) (hc : c.length ≤ cap) (hm : cap ≤ 9223372036854775807) (h0 : chkDeed c.length d = 0) :
    Calls Try.prog 42 #[.slice (some ⟨g, 0, none⟩) c.length cap, d.value, .func (.func K) #[] #[]] w fun e w' => e = .returned (.tuple #[]) ∧ CellsB w' g (turnM t d c) ∧ Below g w w' := by
  have HR : Hid (∀ W, Calls Try.prog 55 #[.slice (some ⟨g, 0, none⟩) c.length cap, d.value] W fun e w' => e = .returned (.slice (some ⟨g, d.start, none⟩) d.many (cap - d.start)) ∧ Below W.heap.size W w') := fun W => reach_any g c.length cap d W hl hc hm h0
  have HBc : Hid (∀ (b : UInt8) W, Calls Try.prog 56 #[d.value, .int .u8 (b.toNat : Int)] W fun e w' => e = .returned (.int .u8 ((d.bec b).toNat : Int)) ∧ Below W.heap.size W w') := fun b W => becomes_any c.length d b W h0
  obtain ⟨_, _, _, hle, _⟩ := deed_right h0
  have hmn : d.many ≤ 128 := by unfold Deed.many; split <;> omega
  have HZ : Hid (turnK t d d.start 0 c = c) := turnK_zero t d d.start c
  have HM : Hid (turnM t d c = turnK t d d.start d.many c) := rfl
  have HS : Hid (∀ k b, c[d.start + k]? = some b → (turnK t d d.start k c).set (d.start + k) (b ^^^ t k (b ^^^ d.bec b)) = turnK t d d.start (k + 1) c) := fun k b h => turnK_next t d d.start k c b h
  have HA : Hid (∀ k, (turnK t d d.start k c)[d.start + k]? = c[d.start + k]?) := fun k => turnK_same t d d.start k c
  have HL : Hid (∀ k, (turnK t d d.start k c).length = c.length) := fun k => turnK_length t d d.start k c
  have HTT : Hid (∀ (i : Nat) (b : UInt8) W, Below n0 w W → Calls Try.prog K #[.int .i64 i, .int .u8 (b.toNat : Int)] W fun e W' => e = .returned (.int .u8 ((t i b).toNat : Int)) ∧ Below W.heap.size W W') := hT
  have hgw : g < w.heap.size := hC.lt
  have HC0 : Hid (CellsB w g c) := hC
  clear hT h0 hC
  generalize turnM t d c = TM at *
  generalize turnK t d d.start = TK at *
  generalize d.bec = bec at *
  generalize d.start = st at *
  generalize d.many = mn at *
  obtain ⟨kd, ps, vl⟩ := d
  unfold Deed.value at *
  dsimp only at *
  have HB : Hid (Below w.heap.size w (w.alloc (.cells #[.int .i64 kd, .int .i64 ps, .int .i64 vl] 32))) := (Below.refl _ _).alloc (Nat.le_refl _) _
  have HCA : Hid (CellsAt (w.alloc (.cells #[.int .i64 kd, .int .i64 ps, .int .i64 vl] 32)) w.heap.size 32 #[.int .i64 kd, .int .i64 ps, .int .i64 vl]) := CellsAt.new _ _ _
  go_enter Try.func42, Try.ntmps42
  go_wp2_with fail
  refine (HR.out _).mono ?_
  rintro e wa ⟨rfl, b2⟩
  have HB2 : Hid (Below w.heap.size w wa) := HB.out.trans (b2.mono HB.out.size)
  have HCA2 : Hid (CellsAt wa w.heap.size 32 #[.int .i64 kd, .int .i64 ps, .int .i64 vl]) := HCA.out.below b2 HCA.out.lt
  have HC2 : Hid (CellsB wa g (TK 0 c)) := by
    show CellsB wa g (TK 0 c)
    rw [HZ.out]
    exact HC0.out.kept HB2.out hgw
  have HG2 : Hid (Below g w wa) := HB2.out.mono (Nat.le_of_lt hgw)
  clear b2 HB HCA HC0 HZ HR HB2
  go_wp2
  go_loopw [14] (fun i wr => ∃ (k : Nat), k ≤ mn ∧ i = .int .i64 k ∧ Hid (CellsB wr g (TK k c)) ∧ Hid (Below g w wr) ∧ Hid (CellsAt wr w.heap.size 32 #[.int .i64 kd, .int .i64 ps, .int .i64 vl])) (fun i _ => mn - (intOf i).toNat)
  case atStart => exact ⟨0, Nat.zero_le _, rfl, HC2, HG2, HCA2⟩
  case round =>
    obtain ⟨k, hk, rfl, HC, HG, HA0⟩ := hrel
    clear HC2 HG2 HCA2
    by_cases hlt : k < mn
    · have hx0 : st + k < c.length := by omega
      obtain ⟨x, hx⟩ : ∃ x, c[st + k]? = some x := ⟨_, List.getElem?_eq_getElem hx0⟩
      have c0 := HC.out.holds (st + k) x (by rw [HA.out, hx])
      have d0 := HA0.out.cell 0
      have d1 := HA0.out.cell 1
      have d2 := HA0.out.cell 2
      simp at d0 d1 d2
      have HN : Hid ((TK k c).set (st + k) (x ^^^ t k (x ^^^ bec x)) = TK (k + 1) c) := HS.out k x hx
      have HLk : Hid ((TK k c).length = c.length) := HL.out k
      have hwl : w.heap.size < wr.heap.size := HA0.out.lt
      have hgr : g < wr.heap.size := HC.out.lt
      have HXX : Hid (c[st + k]? = some x) := hx
      clear hx
      go_wp2_with fail
      refine (HBc.out x _).mono ?_
      rintro e wb ⟨rfl, b3⟩
      have HX : Hid (bits .xor .u8 (x.toNat : Int) ((bec x).toNat : Int) = ((x ^^^ bec x).toNat : Int)) := bits_xor_u8 x (bec x)
      have HC3 : Hid (CellsB wb g (TK k c)) := HC.out.below b3
      have HG3 : Hid (Below g w wb) := HG.out.trans (b3.mono (Nat.le_of_lt hgr))
      have HA3 : Hid (CellsAt wb w.heap.size 32 #[.int .i64 kd, .int .i64 ps, .int .i64 vl]) := HA0.out.below b3 HA0.out.lt
      have hgb : g < wb.heap.size := HC3.out.lt
      clear c0 d0 d1 d2 b3 HC HG HA0
      go_wp2_with fail
      first
        | refine Calls.mono (HTT.out k (x ^^^ bec x) _ (HG3.out.mono hg)) ?_
        | (rw [HX.out]; refine Calls.mono (HTT.out k (x ^^^ bec x) _ (HG3.out.mono hg)) ?_)
      rintro e wc ⟨rfl, b4⟩
      have HY : Hid (bits .xor .u8 (x.toNat : Int) ((t k (x ^^^ bec x)).toNat : Int) = ((x ^^^ t k (x ^^^ bec x)).toNat : Int)) := bits_xor_u8 x _
      have HC4 : Hid (CellsB wc g (TK k c)) := HC3.out.below b4
      have HG4 : Hid (Below g w wc) := HG3.out.trans (b4.mono (Nat.le_of_lt hgb))
      have HA4 : Hid (CellsAt wc w.heap.size 32 #[.int .i64 kd, .int .i64 ps, .int .i64 vl]) := HA3.out.below b4 HA3.out.lt
      have f0 := HC4.out.free (st + k) (by rw [HLk.out]; exact hx0)
      have g0 := HC4.out.holds (st + k) x (by rw [HA.out]; exact HXX.out)
      clear b4 HC3 HG3 HA3
      generalize t k (x ^^^ bec x) = y at *
      go_wp2
      have HC5 := HC4.out.set (st + k) (x ^^^ y) (by rw [HLk.out]; exact hx0)
      rw [HN.out, ← HY.out] at HC5
      exact ⟨⟨k + 1, by omega, by go_num, HC5, HG4.out.setCell (Nat.le_refl _) _, HA4.out.kept (grown_set wc g (st + k) _) (by intro e; injection e with e; omega)⟩, by simp [intOf]; omega⟩
    · obtain rfl : k = mn := by omega
      go_wp2
      go_end0
      exact ⟨rfl, by rw [HM.out]; exact HC.out, HG.out⟩

set_option maxHeartbeats 4000000 in
theorem turn_any1 (t : Nat → UInt8 → UInt8) (g cap : Nat) (c : List UInt8) (d : Deed) (K : FuncId) (cp : Value) (hK : ∀ w x y, Sem.run Try.prog (callFunc K #[x, y, cp]) w = .ok (.enter K #[x, y, cp]) w) (n0 : Nat) (w : World)
    (hT : ∀ (i : Nat) (b : UInt8) W, Below n0 w W → Calls Try.prog K #[.int .i64 i, .int .u8 (b.toNat : Int), cp] W fun e W' => e = .returned (.int .u8 ((t i b).toNat : Int)) ∧ Below W.heap.size W W')
    (hg : n0 ≤ g) (hC : CellsB w g c) (hl : c.length ≤ 4096) (hc : c.length ≤ cap) (hm : cap ≤ 9223372036854775807) (h0 : chkDeed c.length d = 0) :
    Calls Try.prog 42 #[.slice (some ⟨g, 0, none⟩) c.length cap, d.value, .func (.func K) #[] #[cp]] w fun e w' => e = .returned (.tuple #[]) ∧ CellsB w' g (turnM t d c) ∧ Below g w w' := by
  have HR : Hid (∀ W, Calls Try.prog 55 #[.slice (some ⟨g, 0, none⟩) c.length cap, d.value] W fun e w' => e = .returned (.slice (some ⟨g, d.start, none⟩) d.many (cap - d.start)) ∧ Below W.heap.size W w') := fun W => reach_any g c.length cap d W hl hc hm h0
  have HBc : Hid (∀ (b : UInt8) W, Calls Try.prog 56 #[d.value, .int .u8 (b.toNat : Int)] W fun e w' => e = .returned (.int .u8 ((d.bec b).toNat : Int)) ∧ Below W.heap.size W w') := fun b W => becomes_any c.length d b W h0
  obtain ⟨_, _, _, hle, _⟩ := deed_right h0
  have hmn : d.many ≤ 128 := by unfold Deed.many; split <;> omega
  have HZ : Hid (turnK t d d.start 0 c = c) := turnK_zero t d d.start c
  have HM : Hid (turnM t d c = turnK t d d.start d.many c) := rfl
  have HS : Hid (∀ k b, c[d.start + k]? = some b → (turnK t d d.start k c).set (d.start + k) (b ^^^ t k (b ^^^ d.bec b)) = turnK t d d.start (k + 1) c) := fun k b h => turnK_next t d d.start k c b h
  have HA : Hid (∀ k, (turnK t d d.start k c)[d.start + k]? = c[d.start + k]?) := fun k => turnK_same t d d.start k c
  have HL : Hid (∀ k, (turnK t d d.start k c).length = c.length) := fun k => turnK_length t d d.start k c
  have HTT : Hid (∀ (i : Nat) (b : UInt8) W, Below n0 w W → Calls Try.prog K #[.int .i64 i, .int .u8 (b.toNat : Int), cp] W fun e W' => e = .returned (.int .u8 ((t i b).toNat : Int)) ∧ Below W.heap.size W W') := hT
  have hgw : g < w.heap.size := hC.lt
  have HC0 : Hid (CellsB w g c) := hC
  clear hT h0 hC
  generalize turnM t d c = TM at *
  generalize turnK t d d.start = TK at *
  generalize d.bec = bec at *
  generalize d.start = st at *
  generalize d.many = mn at *
  obtain ⟨kd, ps, vl⟩ := d
  unfold Deed.value at *
  dsimp only at *
  have HB : Hid (Below w.heap.size w (w.alloc (.cells #[.int .i64 kd, .int .i64 ps, .int .i64 vl] 32))) := (Below.refl _ _).alloc (Nat.le_refl _) _
  have HCA : Hid (CellsAt (w.alloc (.cells #[.int .i64 kd, .int .i64 ps, .int .i64 vl] 32)) w.heap.size 32 #[.int .i64 kd, .int .i64 ps, .int .i64 vl]) := CellsAt.new _ _ _
  go_enter Try.func42, Try.ntmps42
  go_wp2_with fail
  refine (HR.out _).mono ?_
  rintro e wa ⟨rfl, b2⟩
  have HB2 : Hid (Below w.heap.size w wa) := HB.out.trans (b2.mono HB.out.size)
  have HCA2 : Hid (CellsAt wa w.heap.size 32 #[.int .i64 kd, .int .i64 ps, .int .i64 vl]) := HCA.out.below b2 HCA.out.lt
  have HC2 : Hid (CellsB wa g (TK 0 c)) := by
    show CellsB wa g (TK 0 c)
    rw [HZ.out]
    exact HC0.out.kept HB2.out hgw
  have HG2 : Hid (Below g w wa) := HB2.out.mono (Nat.le_of_lt hgw)
  clear b2 HB HCA HC0 HZ HR HB2
  go_wp2
  go_loopw [14] (fun i wr => ∃ (k : Nat), k ≤ mn ∧ i = .int .i64 k ∧ Hid (CellsB wr g (TK k c)) ∧ Hid (Below g w wr) ∧ Hid (CellsAt wr w.heap.size 32 #[.int .i64 kd, .int .i64 ps, .int .i64 vl])) (fun i _ => mn - (intOf i).toNat)
  case atStart => exact ⟨0, Nat.zero_le _, rfl, HC2, HG2, HCA2⟩
  case round =>
    obtain ⟨k, hk, rfl, HC, HG, HA0⟩ := hrel
    clear HC2 HG2 HCA2
    by_cases hlt : k < mn
    · have hx0 : st + k < c.length := by omega
      obtain ⟨x, hx⟩ : ∃ x, c[st + k]? = some x := ⟨_, List.getElem?_eq_getElem hx0⟩
      have c0 := HC.out.holds (st + k) x (by rw [HA.out, hx])
      have d0 := HA0.out.cell 0
      have d1 := HA0.out.cell 1
      have d2 := HA0.out.cell 2
      simp at d0 d1 d2
      have HN : Hid ((TK k c).set (st + k) (x ^^^ t k (x ^^^ bec x)) = TK (k + 1) c) := HS.out k x hx
      have HLk : Hid ((TK k c).length = c.length) := HL.out k
      have hwl : w.heap.size < wr.heap.size := HA0.out.lt
      have hgr : g < wr.heap.size := HC.out.lt
      have HXX : Hid (c[st + k]? = some x) := hx
      clear hx
      go_wp2_with fail
      refine (HBc.out x _).mono ?_
      rintro e wb ⟨rfl, b3⟩
      have HX : Hid (bits .xor .u8 (x.toNat : Int) ((bec x).toNat : Int) = ((x ^^^ bec x).toNat : Int)) := bits_xor_u8 x (bec x)
      have HC3 : Hid (CellsB wb g (TK k c)) := HC.out.below b3
      have HG3 : Hid (Below g w wb) := HG.out.trans (b3.mono (Nat.le_of_lt hgr))
      have HA3 : Hid (CellsAt wb w.heap.size 32 #[.int .i64 kd, .int .i64 ps, .int .i64 vl]) := HA0.out.below b3 HA0.out.lt
      have hgb : g < wb.heap.size := HC3.out.lt
      clear c0 d0 d1 d2 b3 HC HG HA0
      go_wp2_with fail
      first
        | refine Calls.mono (HTT.out k (x ^^^ bec x) _ (HG3.out.mono hg)) ?_
        | (rw [HX.out]; refine Calls.mono (HTT.out k (x ^^^ bec x) _ (HG3.out.mono hg)) ?_)
      rintro e wc ⟨rfl, b4⟩
      have HY : Hid (bits .xor .u8 (x.toNat : Int) ((t k (x ^^^ bec x)).toNat : Int) = ((x ^^^ t k (x ^^^ bec x)).toNat : Int)) := bits_xor_u8 x _
      have HC4 : Hid (CellsB wc g (TK k c)) := HC3.out.below b4
      have HG4 : Hid (Below g w wc) := HG3.out.trans (b4.mono (Nat.le_of_lt hgb))
      have HA4 : Hid (CellsAt wc w.heap.size 32 #[.int .i64 kd, .int .i64 ps, .int .i64 vl]) := HA3.out.below b4 HA3.out.lt
      have f0 := HC4.out.free (st + k) (by rw [HLk.out]; exact hx0)
      have g0 := HC4.out.holds (st + k) x (by rw [HA.out]; exact HXX.out)
      clear b4 HC3 HG3 HA3
      generalize t k (x ^^^ bec x) = y at *
      go_wp2
      have HC5 := HC4.out.set (st + k) (x ^^^ y) (by rw [HLk.out]; exact hx0)
      rw [HN.out, ← HY.out] at HC5
      exact ⟨⟨k + 1, by omega, by go_num, HC5, HG4.out.setCell (Nat.le_refl _) _, HA4.out.kept (grown_set wc g (st + k) _) (by intro e; injection e with e; omega)⟩, by simp [intOf]; omega⟩
    · obtain rfl : k = mn := by omega
      go_wp2
      go_end0
      exact ⟨rfl, by rw [HM.out]; exact HC.out, HG.out⟩

end Go.Proofs.Ytnomapbiklfciaf
