/- The contract of the document's sortTexts. -/
import Derived.Test.YtaklbnabgcglhabRfE
import Derived.Test.YtaklbnabgcglhabCells
import Derived.BigRegion
namespace Go.Proofs.Ytaklbnabgcglhab
open Go.RowKit Go.PlainAid

set_option maxRecDepth 100000

/-- One does not stand behind another one. -/
def NotBehind (a b : ByteArray) : Prop := ¬ Ahead b a
theorem NotBehind.trans {a b c : ByteArray} (h : NotBehind a b) (g : NotBehind b c) : NotBehind a c := fun e => by
  rcases Ahead.total b c with h1 | h1 | h1
  · exact h (h1.trans e)
  · subst h1; exact h e
  · exact g h1
theorem Ahead.notBehind {a b : ByteArray} (h : Ahead a b) : NotBehind a b := fun e => h.asymm e
theorem lessT_false {a b : ByteArray} (h : lessT a b = false) : ¬ Ahead a b := of_decide_eq_false (p := a.data.toList < b.data.toList) h
theorem lessT_true {a b : ByteArray} (h : lessT a b = true) : Ahead a b := of_decide_eq_true (p := a.data.toList < b.data.toList) h
/-- A row in which one is being put where it belongs. -/
structure Puts (pre : List ByteArray) (x : ByteArray) (mid : List ByteArray) : Prop where
  up : (pre ++ mid).Pairwise NotBehind
  mid : ∀ y ∈ mid, Ahead x y
theorem Puts.step {pre : List ByteArray} {p x : ByteArray} {mid : List ByteArray} (h : Puts (pre ++ [p]) x mid) (hx : Ahead x p) : Puts pre x (p :: mid) :=
  ⟨by have := h.up; rw [List.append_assoc] at this; exact this, fun y hy => by
    rcases List.mem_cons.1 hy with rfl | hy
    · exact hx
    · exact h.mid y hy⟩
theorem Puts.stop {pre : List ByteArray} {p x : ByteArray} {mid : List ByteArray} (h : Puts (pre ++ [p]) x mid) (hx : ¬ Ahead x p) : (pre ++ [p] ++ x :: mid).Pairwise NotBehind := by
  have h1 := List.pairwise_append.1 h.up
  refine List.pairwise_append.2 ⟨h1.1, List.pairwise_cons.2 ⟨fun y hy => (h.mid y hy).notBehind, h1.2.1⟩, fun a ha b hb => ?_⟩
  rcases List.mem_cons.1 hb with rfl | hb
  · rcases List.mem_append.1 ha with ha | ha
    · have h2 := List.pairwise_append.1 h1.1
      exact (h2.2.2 a ha p (by simp)).trans hx
    · rw [List.mem_singleton.1 ha]; exact hx
  · exact h1.2.2 a ha b hb
theorem Puts.first {x : ByteArray} {mid : List ByteArray} (h : Puts [] x mid) : (x :: mid).Pairwise NotBehind := List.pairwise_cons.2 ⟨fun y hy => (h.mid y hy).notBehind, h.up⟩

def TxtAt (W : World) (g : Nat) (ss : List ByteArray) : Prop := ∃ cs, CellsAt W g 9 cs ∧ ∀ (j : Nat) (x : ByteArray), ss[j]? = some x → cs[j]? = some (.string x)
theorem TxtAt.cell {W : World} {g : Nat} {ss : List ByteArray} (h : TxtAt W g ss) {j : Nat} {x : ByteArray} (hj : ss[j]? = some x) : W.cell? ⟨g, j, none⟩ = some (.string x) ∧ W.frozen? ⟨g, j, none⟩ = false := by
  obtain ⟨cs, h1, h2⟩ := h
  exact ⟨(h1.cell j).trans (h2 j x hj), h1.frozen j⟩
theorem TxtAt.lt {W : World} {g : Nat} {ss : List ByteArray} (h : TxtAt W g ss) : g < W.heap.size := by
  obtain ⟨cs, h1, _⟩ := h
  exact h1.lt
theorem swap_at {α : Type} (pre : List α) (p x : α) (rest : List α) (j : Nat) : (pre ++ x :: p :: rest)[j]? = if j = pre.length then some x else if j = pre.length + 1 then some p else (pre ++ p :: x :: rest)[j]? := by
  by_cases h1 : j < pre.length
  · rw [if_neg (by omega), if_neg (by omega), List.getElem?_append_left h1, List.getElem?_append_left h1]
  · rw [List.getElem?_append_right (by omega)]
    by_cases h2 : j = pre.length
    · rw [if_pos h2, h2, Nat.sub_self]; rfl
    · rw [if_neg h2]
      by_cases h3 : j = pre.length + 1
      · rw [if_pos h3, h3, Nat.add_sub_cancel_left]; rfl
      · rw [if_neg h3, List.getElem?_append_right (by omega)]
        obtain ⟨q, hq⟩ : ∃ q, j - pre.length = q + 2 := ⟨j - pre.length - 2, by omega⟩
        rw [hq]
        rfl
theorem TxtAt.swap {W : World} {g : Nat} {pre : List ByteArray} {p x : ByteArray} {rest : List ByteArray} (h : TxtAt W g (pre ++ p :: x :: rest)) : TxtAt ((W.setCell ⟨g, pre.length + 1, none⟩ (.string p)).setCell ⟨g, pre.length, none⟩ (.string x)) g (pre ++ x :: p :: rest) := by
  obtain ⟨cs, h1, h2⟩ := h
  refine ⟨_, (h1.set (pre.length + 1) (.string p)).set pre.length (.string x), fun j y hj => ?_⟩
  have b0 : pre.length < cs.size := by
    have := h2 pre.length p (by simp)
    exact (Array.getElem?_eq_some_iff.1 this).1
  have b1 : pre.length + 1 < cs.size := by
    have := h2 (pre.length + 1) x (by rw [List.getElem?_append_right (by omega)]; simp)
    exact (Array.getElem?_eq_some_iff.1 this).1
  rw [swap_at] at hj
  rw [Array.getElem?_setIfInBounds]
  by_cases e0 : j = pre.length
  · rw [if_pos e0] at hj
    injection hj with hj
    rw [if_pos e0.symm, hj, if_pos (by simpa using b0)]
  · rw [if_neg e0] at hj
    rw [if_neg (fun e => e0 e.symm), Array.getElem?_setIfInBounds]
    by_cases e1 : j = pre.length + 1
    · rw [if_pos e1] at hj
      injection hj with hj
      rw [if_pos e1.symm, hj, if_pos b1]
    · rw [if_neg e1] at hj
      rw [if_neg (fun e => e1 e.symm)]
      exact h2 j y hj
theorem TxtAt.below {W W' : World} {g m : Nat} {ss : List ByteArray} (h : TxtAt W g ss) (hb : Below m W W') (hg : g < m) : TxtAt W' g ss := by
  obtain ⟨cs, h1, h2⟩ := h
  exact ⟨cs, h1.below hb hg, h2⟩

theorem TxtAt.other {W : World} {g k m : Nat} {ss : List ByteArray} (h : TxtAt W g ss) (v : Value) (hkm : k ≠ m) : (W.setCell ⟨g, k, none⟩ v).cell? ⟨g, m, none⟩ = W.cell? ⟨g, m, none⟩ ∧ (W.setCell ⟨g, k, none⟩ v).frozen? ⟨g, m, none⟩ = false := by
  obtain ⟨cs, h1, _⟩ := h
  have h3 := h1.set k v
  refine ⟨?_, h3.frozen m⟩
  rw [h3.cell, h1.cell, Array.getElem?_setIfInBounds, if_neg hkm]
theorem grown_drewN {W W' : World} {row : Option Nat} (h : W.grownBy W' row) (q : Nat) : W.grownBy (W'.drewN q) row := by
  have b := below_drewN (Below.refl W'.heap.size W') q
  exact ⟨b.os.trans h.os, b.tape.trans h.tape, b.output.trans h.output, Nat.le_trans h.size b.size, fun k hk hne => (b.block k (Nat.lt_of_lt_of_le hk h.size)).trans (h.block k hk hne)⟩

set_option maxHeartbeats 8000000 in
theorem sortTexts_any (ss : List ByteArray) (g cap : Nat) (w : World) (hT : TxtAt w g ss) (hfit : ∀ x ∈ ss, x.size ≤ 9223372036854775807) (h8 : ss.length ≤ 8) :
    Calls Try.prog 67 #[.slice (some ⟨g, 0, none⟩) ss.length cap] w fun e w' => e = .returned (.tuple #[]) ∧ ∃ ss', ss'.Perm ss ∧ ss'.Pairwise NotBehind ∧ TxtAt w' g ss' ∧ w.grownBy w' (some g) := by
  obtain ⟨n, hn⟩ : ∃ n, n = ss.length := ⟨_, rfl⟩
  have HN : Hid (n = ss.length) := hn
  have HT0 : Hid (TxtAt w g ss) := hT
  rw [← hn] at h8 ⊢
  clear hn hT
  go_enter Try.func67, Try.ntmps67
  go_wp2_with fail
  go_loopw [2] (fun q wr => ∃ (i : Nat) (cur : List ByteArray), 1 ≤ i ∧ q = .int .i64 i ∧ Hid (cur.Perm ss ∧ (cur.take i).Pairwise NotBehind ∧ TxtAt wr g cur) ∧ Hid (w.grownBy wr (some g))) (fun q _ => n + 1 - (intOf q).toNat)
  case atStart =>
    refine ⟨1, ss, Nat.le_refl _, rfl, ⟨.refl _, ?_, HT0.out⟩, ⟨rfl, rfl, rfl, Nat.le_refl _, fun _ _ _ => rfl⟩⟩
    cases ss with
    | nil => simp
    | cons x ss => simp
  case round =>
    obtain ⟨i, cur, hi1, rfl, HC, HG⟩ := hrel
    clear HT0
    by_cases hlt : i < n
    · have hs : Hid (∃ (pre : List ByteArray) (x : ByteArray) (mid rest : List ByteArray), pre.length = i ∧ mid.length = i - i ∧ (pre ++ x :: (mid ++ rest)).Perm ss ∧ Puts pre x mid ∧ TxtAt wr g (pre ++ x :: (mid ++ rest))) := by
        obtain ⟨p1, p2, p3⟩ := HC.out
        have hl : i < cur.length := by rw [p1.length_eq, ← HN.out]; exact hlt
        have e : cur = cur.take i ++ cur[i] :: ([] ++ cur.drop (i + 1)) := by
          rw [List.nil_append, ← List.drop_eq_getElem_cons hl, List.take_append_drop]
        refine ⟨cur.take i, cur[i], [], cur.drop (i + 1), by rw [List.length_take]; omega, by simp, by rw [← e]; exact p1, ⟨by simpa using p2, fun y hy => by simp at hy⟩, by rw [← e]; exact p3⟩
      go_wp2_with fail
      go_loopw [3] (fun q wr => ∃ (k : Nat), k ≤ i ∧ q = .int .i64 k ∧ Hid (∃ (pre : List ByteArray) (x : ByteArray) (mid rest : List ByteArray), pre.length = k ∧ mid.length = i - k ∧ (pre ++ x :: (mid ++ rest)).Perm ss ∧ Puts pre x mid ∧ TxtAt wr g (pre ++ x :: (mid ++ rest))) ∧ Hid (w.grownBy wr (some g))) (fun q _ => (intOf q).toNat)
      case atStart => exact ⟨i, Nat.le_refl _, rfl, hs.out, HG.out⟩
      case round =>
        obtain ⟨k, hk, rfl, HX, HG2⟩ := hrel
        clear hs HC HG
        obtain ⟨pre, x, mid, rest, hpl, hml, hperm, hputs, hT⟩ := HX.out
        clear HX
        by_cases hk0 : k = 0
        · subst hk0
          have hpre : pre = [] := List.length_eq_zero_iff.1 hpl
          subst hpre
          have HF : Hid ((([] : List ByteArray) ++ x :: (mid ++ rest)).Perm ss ∧ ((([] : List ByteArray) ++ x :: (mid ++ rest)).take (i + 1)).Pairwise NotBehind ∧ TxtAt wr g (([] : List ByteArray) ++ x :: (mid ++ rest))) := by
            refine ⟨hperm, ?_, hT⟩
            rw [List.nil_append, List.take_succ_cons, List.take_left' (by omega)]
            exact hputs.first
          clear hperm hputs hT hpl hml
          have hg0 : decide ((0 : Int) < ((0 : Nat) : Int)) = false := by decide
          go_wp2_with fail
          go_quiet (fail)
          go_wp2
          have bq := below_drewN (Below.refl wr.heap.size wr)
          refine ⟨⟨i + 1, _, by omega, by go_num, ⟨HF.out.1, HF.out.2.1, HF.out.2.2.below (bq _) HF.out.2.2.lt⟩, grown_drewN HG2.out _⟩, by simp [intOf]; omega⟩
        · obtain ⟨m, hm⟩ : ∃ m, k = m + 1 := ⟨k - 1, by omega⟩
          obtain ⟨pre', p, rfl⟩ : ∃ pre' p, pre = pre' ++ [p] := by
            have : pre ≠ [] := fun e => by rw [e] at hpl; simp at hpl; omega
            exact ⟨pre.dropLast, pre.getLast this, (List.dropLast_concat_getLast this).symm⟩
          have hpl' : pre'.length = m := by simp at hpl; omega
          have e1 : pre' ++ [p] ++ x :: (mid ++ rest) = pre' ++ p :: x :: (mid ++ rest) := by simp
          rw [e1] at hperm hT
          have HK : Hid (k = m + 1) := hm
          have q0 : IntKind.i64.wrap ((k : Int) - 1) = (m : Int) := by rw [i64_is]; unfold wrap64; omega
          have q1 : (k : Int) < (n : Int) := by omega
          have q2 : (m : Int) < (n : Int) := by omega
          have q3 : (0 : Int) < (k : Int) := by omega
          have q4 : decide (0 < k) = true := decide_eq_true (by omega)
          have q5 : decide ((0 : Int) < (k : Int)) = true := decide_eq_true (by omega)
          obtain ⟨ck, fk⟩ := hT.cell (j := k) (x := x) (by rw [hm, ← hpl', List.getElem?_append_right (by omega)]; simp)
          obtain ⟨cm, fm⟩ := hT.cell (j := m) (x := p) (by rw [← hpl']; simp)
          have hxs : x.size ≤ 9223372036854775807 := hfit x (hperm.mem_iff.1 (by simp))
          have HTL : Hid (∀ q, Calls Try.prog 68 #[.string x, .string p] (wr.drewN q) fun e w' => e = .returned (.bool (lessT x p)) ∧ ∃ m, w' = (wr.drewN q).drewN m) := fun q => textLess_any x p _ hxs
          have hgl := hT.lt
          have HP : Hid ((pre' ++ p :: x :: (mid ++ rest)).Perm ss ∧ Puts (pre' ++ [p]) x mid ∧ TxtAt wr g (pre' ++ p :: x :: (mid ++ rest)) ∧ pre'.length = m ∧ mid.length = i - k) := ⟨hperm, hputs, hT, hpl', hml⟩
          clear hperm hputs hT hpl hpl' hml e1 hm hxs
          have hlt2 := (decide_eq_true_iff (p := x.data.toList < p.data.toList))
          generalize ht : lessT x p = t at *
          have HTT : Hid (lessT x p = t) := ht
          clear ht hlt2
          cases t
          · go_wp2_with fail
            go_quiet ((go_at_call 68; go_must (refine Calls.quiet_of (HTL.out _))))
            go_wp2
            have bq := below_drewN (Below.refl wr.heap.size wr)
            obtain ⟨p1, p2, p3, p4, p5⟩ := HP.out
            refine ⟨⟨i + 1, _, by omega, by go_num, ⟨p1, ?_, p3.below (bq _) p3.lt⟩, grown_drewN HG2.out _⟩, by simp [intOf]; omega⟩
            have hns := p2.stop (lessT_false HTT.out)
            have e2 : pre' ++ p :: x :: (mid ++ rest) = (pre' ++ [p] ++ x :: mid) ++ rest := by simp
            have hkm := HK.out
            rw [e2, List.take_left' (by simp; omega)]
            exact hns
          · go_wp2_with fail
            go_quiet ((go_at_call 68; go_must (refine Calls.quiet_of (HTL.out _))))
            have bq := below_drewN (Below.refl wr.heap.size wr)
            have HB : Hid (∀ q, Below wr.heap.size wr (wr.drewN q)) := bq
            have HG3 : Hid (∀ q, w.grownBy (wr.drewN q) (some g)) := fun q => grown_drewN HG2.out q
            clear bq HTL HG2
            go_wp2_with fail
            generalize hwq : wr.drewN _ = wq
            have bq := HB.out
            obtain ⟨p1, p2, p3, p4, p5⟩ := HP.out
            have p6 : TxtAt wq g (pre' ++ p :: x :: (mid ++ rest)) := by rw [← hwq]; exact p3.below (HB.out _) p3.lt
            have g6 : w.grownBy wq (some g) := by rw [← hwq]; exact HG3.out _
            have ck' : wq.cell? ⟨g, k, none⟩ = some (.string x) := by rw [← hwq]; simpa using ck
            have fk' : wq.frozen? ⟨g, k, none⟩ = false := by rw [← hwq]; simpa using fk
            have cm' : wq.cell? ⟨g, m, none⟩ = some (.string p) := by rw [← hwq]; simpa using cm
            have fm' : wq.frozen? ⟨g, m, none⟩ = false := by rw [← hwq]; simpa using fm
            have hgl' : g < wq.heap.size := p6.lt
            obtain ⟨co, fo⟩ := p6.other (k := k) (m := m) (.string p) (by have := HK.out; omega)
            rw [cm'] at co
            have HPP : Hid ((pre' ++ p :: x :: (mid ++ rest)).Perm ss ∧ Puts (pre' ++ [p]) x mid ∧ TxtAt wq g (pre' ++ p :: x :: (mid ++ rest)) ∧ pre'.length = m ∧ mid.length = i - k ∧ w.grownBy wq (some g)) := ⟨p1, p2, p6, p4, p5, g6⟩
            clear hwq HB HG3 HP p1 p2 p3 p4 p5 p6 g6 bq ck fk cm fm hgl
            go_region
            go_wp2
            obtain ⟨p1, p2, p6, p4, p5, g6⟩ := HPP.out
            have hkm := HK.out
            have t6 := p6.swap
            rw [p4, ← hkm] at t6
            have gg := (g6.trans (grown_set wq g k (.string p))).trans (grown_set _ g m (.string x))
            have bd : Below ((wq.setCell ⟨g, k, none⟩ (.string p)).setCell ⟨g, m, none⟩ (.string x)).heap.size ((wq.setCell ⟨g, k, none⟩ (.string p)).setCell ⟨g, m, none⟩ (.string x)) ((wq.setCell ⟨g, k, none⟩ (.string p)).setCell ⟨g, m, none⟩ (.string x)).drew := (Below.refl _ _).drew
            exact ⟨⟨m, by omega, rfl, ⟨pre', x, p :: mid, rest, p4, by simp; omega, ((List.Perm.swap p x _).append_left pre').trans p1, p2.step (lessT_true HTT.out), t6.below bd t6.lt⟩, grown_drewN gg 1⟩, by simp [intOf]; omega⟩
    · have hlt' : decide ((i : Int) < (n : Int)) = false := decide_eq_false (by omega)
      go_wp2
      go_end0
      refine ⟨rfl, cur, HC.out.1, ?_, HC.out.2.2, HG.out⟩
      have := HC.out.2.1
      rw [List.take_of_length_le (by rw [HC.out.1.length_eq, ← HN.out]; omega)] at this
      exact this

end Go.Proofs.Ytaklbnabgcglhab
