/- What a reader reads, as functions; and memory that is cells. -/
import Derived.Test.YtaklbnabgcglhaaDecA
import Derived.Test.YtaklbnabgcglhaaCells
namespace Go.Proofs.Ytaklbnabgcglhaa
open Go.RowKit Go.PlainAid

def rdNum (c : Bool) (s : ByteArray) (m : Nat) (σ : (Nat × Bool)) : Int × (Nat × Bool) := if (c && σ.2) = true ∨ s.size < σ.1 + m then (0, (σ.1, true)) else (getN s σ.1 m, (σ.1 + m, σ.2))
def rdPiece (c : Bool) (s : ByteArray) (n : Nat) (σ : (Nat × Bool)) : ByteArray × (Nat × Bool) := if (c && σ.2) = true ∨ s.size < σ.1 + n then (⟨#[]⟩, (σ.1, true)) else (s.extract σ.1 (σ.1 + n), (σ.1 + n, σ.2))
def rdName (c : Bool) (s : ByteArray) (σ : (Nat × Bool)) : ByteArray × (Nat × Bool) := rdPiece c s (rdNum c s 1 σ).1.toNat (rdNum c s 1 σ).2
def rdExp (c : Bool) (s : ByteArray) (σ : (Nat × Bool)) : Exp × (Nat × Bool) :=
  let n := rdName c s σ
  let a := rdNum c s 2 n.2
  (⟨n.1, a.1⟩, a.2)
def rdImp (c : Bool) (s : ByteArray) (σ : (Nat × Bool)) : Imp × (Nat × Bool) :=
  let m := rdName c s σ
  let n := rdName c s m.2
  let a := rdNum c s 1 n.2
  let b := rdNum c s 1 a.2
  (⟨m.1, n.1, a.1, b.1⟩, b.2)
def rdPat (c : Bool) (s : ByteArray) (σ : (Nat × Bool)) : Pat × (Nat × Bool) :=
  let k := rdNum c s 1 σ
  let a := rdNum c s 2 k.2
  let y := rdNum c s 1 a.2
  let d := rdNum c s 2 y.2
  (⟨k.1, a.1, y.1 - 1, d.1⟩, d.2)
def rdStep {α : Type} (f : (Nat × Bool) → α × (Nat × Bool)) (p : List α × (Nat × Bool)) : List α × (Nat × Bool) := if p.2.2 = true then p else (p.1 ++ [(f p.2).1], (f p.2).2)
def rdTimes {α : Type} (f : (Nat × Bool) → α × (Nat × Bool)) : Nat → List α × (Nat × Bool) → List α × (Nat × Bool)
  | 0, p => p
  | k + 1, p => rdStep f (rdTimes f k p)
def rdMany {α : Type} (c : Bool) (s : ByteArray) (f : (Nat × Bool) → α × (Nat × Bool)) (σ : (Nat × Bool)) : List α × (Nat × Bool) := rdTimes f (rdNum c s 1 σ).1.toNat ([], (rdNum c s 1 σ).2)
def rdMod (c : Bool) (s : ByteArray) (σ : (Nat × Bool)) : Mod × (Nat × Bool) :=
  let n := rdName c s σ
  let a := rdNum c s 1 n.2
  let b := rdNum c s 1 a.2
  let l := rdNum c s 2 b.2
  let t := rdPiece c s l.1.toNat l.2
  let e := rdMany c s (rdExp c s) t.2
  let i := rdMany c s (rdImp c s) e.2
  let p := rdMany c s (rdPat c s) i.2
  (⟨n.1, a.1, b.1, t.1, e.1, i.1, p.1⟩, p.2)

theorem rdTimes_short {α : Type} (f : (Nat × Bool) → α × (Nat × Bool)) : ∀ (k : Nat) (p : List α × (Nat × Bool)), p.2.2 = true → rdTimes f k p = p
  | 0, _, _ => rfl
  | k + 1, p, h => by
    show rdStep f (rdTimes f k p) = p
    rw [rdTimes_short f k p h, rdStep, if_pos h]
theorem rdTimes_stop {α : Type} (f : (Nat × Bool) → α × (Nat × Bool)) (p : List α × (Nat × Bool)) (k : Nat) (h : (rdTimes f k p).2.2 = true) : ∀ n, k ≤ n → rdTimes f n p = rdTimes f k p := by
  intro n hn
  obtain ⟨j, rfl⟩ := Nat.exists_eq_add_of_le hn
  clear hn
  induction j with
  | zero => rfl
  | succ j ih =>
    show rdStep f (rdTimes f (k + j) p) = _
    rw [ih, rdStep, if_pos h]
theorem rdTimes_next {α : Type} (f : (Nat × Bool) → α × (Nat × Bool)) (p : List α × (Nat × Bool)) (k : Nat) (h : (rdTimes f k p).2.2 = false) : rdTimes f (k + 1) p = ((rdTimes f k p).1 ++ [(f (rdTimes f k p).2).1], (f (rdTimes f k p).2).2) := by
  show rdStep f (rdTimes f k p) = _
  rw [rdStep, if_neg (by rw [h]; simp)]
theorem rdTimes_length {α : Type} (f : (Nat × Bool) → α × (Nat × Bool)) (p : List α × (Nat × Bool)) : ∀ k, (rdTimes f k p).1.length ≤ p.1.length + k
  | 0 => by simp [rdTimes]
  | k + 1 => by
    have ih := rdTimes_length f p k
    show (rdStep f (rdTimes f k p)).1.length ≤ _
    unfold rdStep
    split
    · omega
    · simp; omega

/-- Never behind the end. -/
theorem rdNum_le (c : Bool) (s : ByteArray) (m : Nat) (σ : (Nat × Bool)) (h : σ.1 ≤ s.size) : (rdNum c s m σ).2.1 ≤ s.size := by
  unfold rdNum; split <;> simp_all
theorem rdPiece_le (c : Bool) (s : ByteArray) (m : Nat) (σ : (Nat × Bool)) (h : σ.1 ≤ s.size) : (rdPiece c s m σ).2.1 ≤ s.size := by
  unfold rdPiece; split <;> simp_all
theorem rdName_le (c : Bool) (s : ByteArray) (σ : (Nat × Bool)) (h : σ.1 ≤ s.size) : (rdName c s σ).2.1 ≤ s.size := rdPiece_le _ _ _ _ (rdNum_le _ _ _ _ h)
theorem rdExp_le (c : Bool) (s : ByteArray) (σ : (Nat × Bool)) (h : σ.1 ≤ s.size) : (rdExp c s σ).2.1 ≤ s.size := rdNum_le _ _ _ _ (rdName_le _ _ _ h)
theorem rdImp_le (c : Bool) (s : ByteArray) (σ : (Nat × Bool)) (h : σ.1 ≤ s.size) : (rdImp c s σ).2.1 ≤ s.size := rdNum_le _ _ _ _ (rdNum_le _ _ _ _ (rdName_le _ _ _ (rdName_le _ _ _ h)))
theorem rdPat_le (c : Bool) (s : ByteArray) (σ : (Nat × Bool)) (h : σ.1 ≤ s.size) : (rdPat c s σ).2.1 ≤ s.size := rdNum_le _ _ _ _ (rdNum_le _ _ _ _ (rdNum_le _ _ _ _ (rdNum_le _ _ _ _ h)))
theorem rdTimes_le {α : Type} (s : ByteArray) (f : (Nat × Bool) → α × (Nat × Bool)) (hf : ∀ σ : (Nat × Bool), σ.1 ≤ s.size → (f σ).2.1 ≤ s.size) (p : List α × (Nat × Bool)) (h : p.2.1 ≤ s.size) : ∀ k, (rdTimes f k p).2.1 ≤ s.size
  | 0 => h
  | k + 1 => by
    show (rdStep f (rdTimes f k p)).2.1 ≤ _
    unfold rdStep
    split
    · exact rdTimes_le s f hf p h k
    · exact hf _ (rdTimes_le s f hf p h k)
theorem rdMany_le {α : Type} (c : Bool) (s : ByteArray) (f : (Nat × Bool) → α × (Nat × Bool)) (hf : ∀ σ : (Nat × Bool), σ.1 ≤ s.size → (f σ).2.1 ≤ s.size) (σ : (Nat × Bool)) (h : σ.1 ≤ s.size) : (rdMany c s f σ).2.1 ≤ s.size :=
  rdTimes_le s f hf _ (rdNum_le _ _ _ _ h) _
theorem rdNum_bd (c : Bool) (s : ByteArray) (m : Nat) (σ : (Nat × Bool)) : 0 ≤ (rdNum c s m σ).1 ∧ (rdNum c s m σ).1 < 256 ^ m := by
  unfold rdNum
  split
  · exact ⟨Int.le_refl _, Int.pow_pos (by decide)⟩
  · exact getN_bd s σ.1 m
theorem rdPiece_size (c : Bool) (s : ByteArray) (n : Nat) (σ : (Nat × Bool)) : (rdPiece c s n σ).1.size ≤ n := by
  unfold rdPiece
  split
  · exact Nat.zero_le _
  · rw [ByteArray.size_extract]; omega
theorem rdName_size (c : Bool) (s : ByteArray) (σ : (Nat × Bool)) : (rdName c s σ).1.size ≤ 255 := by
  have h1 := rdPiece_size c s (rdNum c s 1 σ).1.toNat (rdNum c s 1 σ).2
  have h2 := rdNum_bd c s 1 σ
  show (rdPiece c s (rdNum c s 1 σ).1.toNat (rdNum c s 1 σ).2).1.size ≤ 255
  omega

/-- A reader of type t in block R. -/
def RdAt (t : TypeId) (W : World) (R : Nat) (s : ByteArray) (σ : (Nat × Bool)) : Prop := CellsAt W R t #[.string s, .int .i64 σ.1, .bool σ.2]
theorem RdAt.parts {t : TypeId} {W : World} {R : Nat} {s : ByteArray} {σ : (Nat × Bool)} (h : RdAt t W R s σ) : W.cell? ⟨R, 0, none⟩ = some (.string s) ∧ W.cell? ⟨R, 1, none⟩ = some (.int .i64 σ.1) ∧ W.cell? ⟨R, 2, none⟩ = some (.bool σ.2) ∧ W.frozen? ⟨R, 1, none⟩ = false ∧ W.frozen? ⟨R, 2, none⟩ = false :=
  ⟨h.cell 0, h.cell 1, h.cell 2, h.frozen 1, h.frozen 2⟩
theorem RdAt.setAt {t : TypeId} {W : World} {R : Nat} {s : ByteArray} {σ : (Nat × Bool)} (h : RdAt t W R s σ) (a : Nat) : RdAt t (W.setCell ⟨R, 1, none⟩ (.int .i64 a)) R s (a, σ.2) := CellsAt.set 1 _ h
theorem RdAt.setShort {t : TypeId} {W : World} {R : Nat} {s : ByteArray} {σ : (Nat × Bool)} (h : RdAt t W R s σ) : RdAt t (W.setCell ⟨R, 2, none⟩ (.bool true)) R s (σ.1, true) := CellsAt.set 2 _ h

end Go.Proofs.Ytaklbnabgcglhaa
