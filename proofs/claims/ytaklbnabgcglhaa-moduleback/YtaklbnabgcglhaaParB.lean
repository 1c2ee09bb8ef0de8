/- What is written is read, and what is read was written. -/
import Derived.Test.YtaklbnabgcglhaaParA
namespace Go.Proofs.Ytaklbnabgcglhaa
open Go.RowKit Go.PlainAid

/-- These bytes lie from a on. -/
def LieAt (s : ByteArray) (a : Nat) (l : List UInt8) : Prop := ∀ i, i < l.length → s.data.toList[a + i]? = l[i]?

theorem LieAt.append {s : ByteArray} {a : Nat} {l m : List UInt8} : LieAt s a (l ++ m) ↔ LieAt s a l ∧ LieAt s (a + l.length) m := by
  constructor
  · intro h
    refine ⟨fun i hi => ?_, fun i hi => ?_⟩
    · rw [h i (by rw [List.length_append]; omega), List.getElem?_append_left hi]
    · have := h (l.length + i) (by rw [List.length_append]; omega)
      rw [List.getElem?_append_right (by omega), show l.length + i - l.length = i by omega] at this
      rw [Nat.add_assoc]; exact this
  · rintro ⟨h1, h2⟩ i hi
    rw [List.length_append] at hi
    by_cases hl : i < l.length
    · rw [List.getElem?_append_left hl]; exact h1 i hl
    · rw [List.getElem?_append_right (by omega)]
      have := h2 (i - l.length) (by omega)
      rwa [show a + l.length + (i - l.length) = a + i by omega] at this
theorem LieAt.nil (s : ByteArray) (a : Nat) : LieAt s a [] := fun i hi => by simp at hi
theorem LieAt.le {s : ByteArray} {a : Nat} {l : List UInt8} (h : LieAt s a l) (hl : 0 < l.length) : a + l.length ≤ s.size := by
  have := h (l.length - 1) (by omega)
  rw [List.getElem?_eq_getElem (l := l) (by omega)] at this
  have hlt := (List.getElem?_eq_some_iff.1 this).1
  have e : s.data.toList.length = s.size := by simp
  omega
theorem LieAt.bt {s : ByteArray} {a : Nat} {l : List UInt8} (h : LieAt s a l) {i : Nat} {x : UInt8} (hx : l[i]? = some x) : bt s (a + i) = x.toNat := by
  rw [bt_list, h i (List.getElem?_eq_some_iff.1 hx).1, hx]

theorem nums1 (n : Int) : numsBytes 1 [n] = [byteOf n 0] := rfl
theorem nums2 (n : Int) : numsBytes 2 [n] = [byteOf n 0, byteOf n 1] := rfl
theorem numsBytes_two (m : Nat) (a b : Int) : numsBytes m [a, b] = numsBytes m [a] ++ numsBytes m [b] := by simp [numsBytes]

theorem byteOf_get (s : ByteArray) (a m j : Nat) (h1 : 1 ≤ m) (h4 : m ≤ 4) (hj : j < m) (hs : a + m ≤ s.size) : s.data.toList[a + j]? = some (byteOf (getN s a m) j) := by
  have hlt : a + j < s.data.toList.length := by have e : s.data.toList.length = s.size := by simp
                                                omega
  rw [List.getElem?_eq_getElem hlt]
  have e1 := getN_byte s a m j h1 h4 hj
  have e2 := byteOf_toNat (getN s a m) j
  rw [e1, bt_list, List.getElem?_eq_getElem hlt] at e2
  congr 1
  exact (UInt8.toNat_inj.1 (by simp only at e2; omega)).symm

/-- A number that lies there. -/
theorem rdNum_of (c : Bool) (s : ByteArray) (a m : Nat) (hm : m = 1 ∨ m = 2) (n : Int) (h : LieAt s a (numsBytes m [n])) (h0 : 0 ≤ n) (h1 : n < 256 ^ m) : rdNum c s m (a, false) = (n, (a + m, false)) := by
  have hl : (numsBytes m [n]).length = m := by rw [numsBytes_length]; simp
  have hle := h.le (by omega)
  rw [hl] at hle
  unfold rdNum
  rw [if_neg (by simp; omega)]
  have : getN s a m = n := by
    rcases hm with rfl | rfl
    · rw [getN_1]
      have b0 := h.bt (i := 0) (x := byteOf n 0) rfl
      rw [Nat.add_zero, byteOf_toNat] at b0
      rw [b0]; simp; omega
    · rw [getN_2]
      have b0 := h.bt (i := 0) (x := byteOf n 0) rfl
      have b1 := h.bt (i := 1) (x := byteOf n 1) rfl
      rw [Nat.add_zero, byteOf_toNat] at b0
      rw [byteOf_toNat] at b1
      rw [b0, b1]; simp; omega
  rw [this]
theorem rdPiece_of (c : Bool) (s : ByteArray) (a : Nat) (t : ByteArray) (h : LieAt s a t.data.toList) (ha : a ≤ s.size) : rdPiece c s t.size (a, false) = (t, (a + t.size, false)) := by
  have hl : t.data.toList.length = t.size := by simp
  have hle : a + t.size ≤ s.size := by
    by_cases h0 : t.size = 0
    · omega
    · have := h.le (by omega)
      omega
  unfold rdPiece
  rw [if_neg (by simp; omega)]
  have : s.extract a (a + t.size) = t := by
    refine ba_ext (by rw [ByteArray.size_extract]; omega) (fun i hi => ?_)
    rw [ByteArray.size_extract] at hi
    rw [bt_extract s a _ i (by omega), bt_list, h i (by omega), bt_list]
  rw [this]

theorem rdName_of (c : Bool) (s : ByteArray) (a : Nat) (t : ByteArray) (h : LieAt s a (nameB t)) (ht : t.size ≤ 255) : rdName c s (a, false) = (t, (a + (nameB t).length, false)) := by
  obtain ⟨h1, h2⟩ := LieAt.append.1 h
  have e1 := rdNum_of c s a 1 (.inl rfl) t.size h1 (by omega) (by omega)
  have hl : (numsBytes 1 [(t.size : Int)]).length = 1 := rfl
  have hle := h1.le (by rw [hl]; omega)
  rw [hl] at hle h2
  show rdPiece c s (rdNum c s 1 (a, false)).1.toNat (rdNum c s 1 (a, false)).2 = _
  rw [e1]
  show rdPiece c s ((t.size : Int)).toNat (a + 1, false) = _
  rw [Int.toNat_natCast, rdPiece_of c s (a + 1) t h2 hle, nameB_length, Nat.add_assoc]

theorem rdExp_of (c : Bool) (s : ByteArray) (a : Nat) (e : Exp) (h : LieAt s a (expB e)) (h1 : e.name.size ≤ 255) (h2 : 0 ≤ e.pos ∧ e.pos < 65536) : rdExp c s (a, false) = (e, (a + (expB e).length, false)) := by
  obtain ⟨x1, x2⟩ := LieAt.append.1 h
  have e1 := rdName_of c s a e.name x1 h1
  have e2 := rdNum_of c s _ 2 (.inr rfl) e.pos x2 h2.1 (by simpa using h2.2)
  show ((⟨(rdName c s (a, false)).1, (rdNum c s 2 (rdName c s (a, false)).2).1⟩ : Exp), (rdNum c s 2 (rdName c s (a, false)).2).2) = _
  rw [e1]
  dsimp only
  rw [e2, expB_length, nameB_length, show a + (1 + e.name.size) + 2 = a + (3 + e.name.size) by omega]
theorem rdImp_of (c : Bool) (s : ByteArray) (a : Nat) (e : Imp) (h : LieAt s a (impB e)) (h1 : e.mod.size ≤ 255) (h2 : e.name.size ≤ 255) (h3 : 0 ≤ e.major ∧ e.major < 256) (h4 : 0 ≤ e.minor ∧ e.minor < 256) : rdImp c s (a, false) = (e, (a + (impB e).length, false)) := by
  obtain ⟨x12, x3⟩ := LieAt.append.1 h
  obtain ⟨x1, x2⟩ := LieAt.append.1 x12
  rw [numsBytes_two] at x3
  obtain ⟨x3, x4⟩ := LieAt.append.1 x3
  have e1 := rdName_of c s a e.mod x1 h1
  have e2 := rdName_of c s _ e.name x2 h2
  rw [List.length_append, ← Nat.add_assoc] at x3 x4
  have e3 := rdNum_of c s _ 1 (.inl rfl) e.major x3 h3.1 (by simpa using h3.2)
  have e4 := rdNum_of c s _ 1 (.inl rfl) e.minor x4 h4.1 (by simpa using h4.2)
  have hl : (numsBytes 1 [e.major]).length = 1 := rfl
  rw [hl] at e4
  show ((⟨(rdName c s (a, false)).1, (rdName c s (rdName c s (a, false)).2).1, (rdNum c s 1 (rdName c s (rdName c s (a, false)).2).2).1, (rdNum c s 1 (rdNum c s 1 (rdName c s (rdName c s (a, false)).2).2).2).1⟩ : Imp), (rdNum c s 1 (rdNum c s 1 (rdName c s (rdName c s (a, false)).2).2).2).2) = _
  rw [e1]
  dsimp only
  rw [e2]
  dsimp only
  rw [e3]
  dsimp only
  rw [e4, impB_length, nameB_length, nameB_length, show a + (1 + e.mod.size) + (1 + e.name.size) + 1 + 1 = a + (4 + e.mod.size + e.name.size) by omega]
theorem rdPat_of (c : Bool) (s : ByteArray) (a : Nat) (p : Pat) (h : LieAt s a (patB p)) (h1 : 0 ≤ p.kind ∧ p.kind < 256) (h2 : 0 ≤ p.pos ∧ p.pos < 65536) (h3 : 0 ≤ p.sym + 1 ∧ p.sym + 1 < 256) (h4 : 0 ≤ p.add ∧ p.add < 65536) : rdPat c s (a, false) = (p, (a + (patB p).length, false)) := by
  obtain ⟨x123, x4⟩ := LieAt.append.1 h
  obtain ⟨x12, x3⟩ := LieAt.append.1 x123
  obtain ⟨x1, x2⟩ := LieAt.append.1 x12
  have l1 : (numsBytes 1 [p.kind]).length = 1 := rfl
  have l2 : (numsBytes 1 [p.kind] ++ numsBytes 2 [p.pos]).length = 3 := rfl
  have l3 : (numsBytes 1 [p.kind] ++ numsBytes 2 [p.pos] ++ numsBytes 1 [p.sym + 1]).length = 4 := rfl
  rw [l1] at x2
  rw [l2] at x3
  rw [l3] at x4
  have e1 := rdNum_of c s a 1 (.inl rfl) p.kind x1 h1.1 (by simpa using h1.2)
  have e2 := rdNum_of c s _ 2 (.inr rfl) p.pos x2 h2.1 (by simpa using h2.2)
  have e3 := rdNum_of c s _ 1 (.inl rfl) (p.sym + 1) x3 h3.1 (by simpa using h3.2)
  have e4 := rdNum_of c s _ 2 (.inr rfl) p.add x4 h4.1 (by simpa using h4.2)
  show ((⟨(rdNum c s 1 (a, false)).1, (rdNum c s 2 (rdNum c s 1 (a, false)).2).1, (rdNum c s 1 (rdNum c s 2 (rdNum c s 1 (a, false)).2).2).1 - 1, (rdNum c s 2 (rdNum c s 1 (rdNum c s 2 (rdNum c s 1 (a, false)).2).2).2).1⟩ : Pat), (rdNum c s 2 (rdNum c s 1 (rdNum c s 2 (rdNum c s 1 (a, false)).2).2).2).2) = _
  rw [e1]
  dsimp only
  rw [show a + 1 + 2 = a + 3 by omega] at e2
  rw [e2]
  dsimp only
  rw [show a + 3 + 1 = a + 4 by omega] at e3
  rw [e3]
  dsimp only
  rw [e4, patB_length, Int.add_sub_cancel]

theorem rdTimes_of {α : Type} (s : ByteArray) (f : (Nat × Bool) → α × (Nat × Bool)) (B : α → List UInt8) (l : List α) (hf : ∀ x ∈ l, ∀ a, LieAt s a (B x) → f (a, false) = (x, (a + (B x).length, false))) (a : Nat) (h : LieAt s a (l.flatMap B)) :
    ∀ k, k ≤ l.length → rdTimes f k ([], (a, false)) = (l.take k, (a + ((l.take k).flatMap B).length, false))
  | 0, _ => by simp [rdTimes]
  | k + 1, hk => by
    have ih := rdTimes_of s f B l hf a h k (by omega)
    obtain ⟨x, hx⟩ : ∃ x, l[k]? = some x := ⟨_, List.getElem?_eq_getElem (by omega)⟩
    have hsp : l = l.take k ++ x :: l.drop (k + 1) := by rw [← drop_at hx, List.take_append_drop]
    have h2 : LieAt s (a + ((l.take k).flatMap B).length) (B x) := by
      rw [hsp, List.flatMap_append] at h
      have h3 := (LieAt.append.1 h).2
      rw [List.flatMap_cons] at h3
      exact (LieAt.append.1 h3).1
    show rdStep f (rdTimes f k ([], (a, false))) = _
    rw [ih, rdStep, if_neg (by simp), hf x (List.mem_of_getElem? hx) _ h2]
    dsimp only
    rw [flatMap_take_succ B l k x hx, List.length_append, Nat.add_assoc, List.take_add_one, hx]
    rfl
theorem rdMany_of {α : Type} (c : Bool) (s : ByteArray) (f : (Nat × Bool) → α × (Nat × Bool)) (B : α → List UInt8) (l : List α) (hl : l.length ≤ 255) (hf : ∀ x ∈ l, ∀ a, LieAt s a (B x) → f (a, false) = (x, (a + (B x).length, false))) (a : Nat) (h : LieAt s a (numsBytes 1 [(l.length : Int)] ++ l.flatMap B)) :
    rdMany c s f (a, false) = (l, (a + (numsBytes 1 [(l.length : Int)] ++ l.flatMap B).length, false)) := by
  obtain ⟨h1, h2⟩ := LieAt.append.1 h
  have e1 := rdNum_of c s a 1 (.inl rfl) l.length h1 (by omega) (by omega)
  have e2 := rdTimes_of s f B l hf (a + 1) h2 l.length (Nat.le_refl _)
  show rdTimes f (rdNum c s 1 (a, false)).1.toNat ([], (rdNum c s 1 (a, false)).2) = _
  rw [e1]
  dsimp only
  rw [Int.toNat_natCast, e2, List.take_length, List.length_append, Nat.add_assoc]
  rfl

end Go.Proofs.Ytaklbnabgcglhaa
