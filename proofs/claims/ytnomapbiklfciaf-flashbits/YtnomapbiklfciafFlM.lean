/- Flashes as data. -/
import Derived.Test.YtnomapbiklfciafGrC0
import Derived.Laws.BitsLemmas
namespace Go.Proofs.Ytnomapbiklfciaf
open Go.RowKit Go.PlainAid

structure Deed where
  kind : Int
  pos : Int
  val : Int
def Deed.cell (d : Deed) : Nat → Value
  | 0 => .int .i64 d.kind
  | 1 => .int .i64 d.pos
  | _ => .int .i64 d.val
def Deed.value (d : Deed) : Value := .agg #[.int .i64 d.kind, .int .i64 d.pos, .int .i64 d.val]

/-- What is wrong with a flash. -/
def chkFl (F : List ByteArray) : Int := if F.length < 1 ∨ 32 < F.length then 3 else if F.all (fun b => decide (b.size = 128)) then 0 else 1
/-- All its bytes. -/
def joinM (F : List ByteArray) : List UInt8 := F.flatMap (·.data.toList)
/-- The blocks of some bytes. -/
def blockAt (c : List UInt8) (i : Nat) : ByteArray := ⟨((c.drop (i * 128)).take 128).toArray⟩
def blocksM (c : List UInt8) : List ByteArray := (List.range (c.length / 128)).map (blockAt c)

/-- What is wrong with a deed, at so many bytes. -/
def chkDeed (n : Nat) (d : Deed) : Int :=
  if d.kind = 1 then (if d.pos < 0 ∨ (n : Int) ≤ d.pos ∨ d.val < 0 ∨ 255 < d.val then 3 else 0)
  else if d.kind = 2 then (if d.pos < 0 ∨ ((n / 128 : Nat) : Int) ≤ d.pos ∨ d.val ≠ 0 then 3 else 0)
  else 7

/-- Where a deed's bytes begin, how many they are, what becomes of each. -/
def Deed.start (d : Deed) : Nat := if d.kind = 2 then d.pos.toNat * 128 else d.pos.toNat
def Deed.many (d : Deed) : Nat := if d.kind = 2 then 128 else 1
def Deed.bec (d : Deed) (b : UInt8) : UInt8 := if d.kind = 2 then 255 else b &&& UInt8.ofNat d.val.toNat

/-- The bytes with those from s on, k of them, turned. -/
def turnK (t : Nat → UInt8 → UInt8) (d : Deed) (s k : Nat) (c : List UInt8) : List UInt8 :=
  c.mapIdx fun j b => if s ≤ j ∧ j < s + k then b ^^^ t (j - s) (b ^^^ d.bec b) else b
def turnM (t : Nat → UInt8 → UInt8) (d : Deed) (c : List UInt8) : List UInt8 := turnK t d d.start d.many c

/-- Deeds, one by one. -/
def doFrom (t : Nat → UInt8 → UInt8) : List UInt8 → List Deed → List UInt8 × Int
  | c, [] => (c, 0)
  | c, d :: r => if chkDeed c.length d ≠ 0 then ([], chkDeed c.length d) else doFrom t (turnM t d c) r
def chgRes (t : Nat → UInt8 → UInt8) (F : List ByteArray) (l : List Deed) : List ByteArray × Int :=
  if chkFl F ≠ 0 then ([], chkFl F) else if (doFrom t (joinM F) l).2 ≠ 0 then ([], (doFrom t (joinM F) l).2) else (blocksM (doFrom t (joinM F) l).1, 0)

def allT (_ : Nat) (b : UInt8) : UInt8 := b
def tornT (kind : Int) (p : ByteArray) : Nat → UInt8 → UInt8 :=
  if kind = 2 then fun i b => if i < p.size then b &&& p.data.toList.getD i 0 else 0
  else fun _ b => b &&& ~~~ (if p.size = 0 then 255 else p.data.toList.getD 0 0)

theorem turnK_length (t : Nat → UInt8 → UInt8) (d : Deed) (s k : Nat) (c : List UInt8) : (turnK t d s k c).length = c.length := by unfold turnK; rw [List.length_mapIdx]
theorem turnM_length (t : Nat → UInt8 → UInt8) (d : Deed) (c : List UInt8) : (turnM t d c).length = c.length := turnK_length _ _ _ _ _
theorem turnK_at (t : Nat → UInt8 → UInt8) (d : Deed) (s k : Nat) (c : List UInt8) (j : Nat) : (turnK t d s k c)[j]? = (c[j]?).map fun b => if s ≤ j ∧ j < s + k then b ^^^ t (j - s) (b ^^^ d.bec b) else b := by
  unfold turnK
  rw [List.getElem?_mapIdx]
theorem turnK_zero (t : Nat → UInt8 → UInt8) (d : Deed) (s : Nat) (c : List UInt8) : turnK t d s 0 c = c := by
  apply List.ext_getElem?
  intro j
  rw [turnK_at]
  cases c[j]? with
  | none => rfl
  | some b => simp only [Option.map_some]; rw [if_neg (by omega)]
theorem turnK_next (t : Nat → UInt8 → UInt8) (d : Deed) (s k : Nat) (c : List UInt8) (b : UInt8) (h : c[s + k]? = some b) : (turnK t d s k c).set (s + k) (b ^^^ t k (b ^^^ d.bec b)) = turnK t d s (k + 1) c := by
  apply List.ext_getElem?
  intro j
  rw [List.getElem?_set, turnK_at, turnK_at, turnK_length]
  by_cases hj : s + k = j
  · subst hj
    rw [if_pos rfl, h]
    have hlt : s + k < c.length := (List.getElem?_eq_some_iff.1 h).1
    rw [if_pos hlt]
    simp only [Option.map_some]
    rw [if_pos (by omega), Nat.add_sub_cancel_left]
  · rw [if_neg hj]
    cases c[j]? with
    | none => rfl
    | some x =>
      simp only [Option.map_some]
      by_cases h1 : s ≤ j ∧ j < s + k
      · rw [if_pos h1, if_pos (by omega)]
      · rw [if_neg h1, if_neg (by omega)]
theorem turnK_same (t : Nat → UInt8 → UInt8) (d : Deed) (s k : Nat) (c : List UInt8) : (turnK t d s k c)[s + k]? = c[s + k]? := by
  rw [turnK_at]
  cases c[s + k]? with
  | none => rfl
  | some x => simp only [Option.map_some]; rw [if_neg (by omega)]

theorem chkFl_cases (F : List ByteArray) : (chkFl F = 3 ∧ (F.length < 1 ∨ 32 < F.length)) ∨ (chkFl F = 1 ∧ 1 ≤ F.length ∧ F.length ≤ 32 ∧ ∃ b ∈ F, b.size ≠ 128) ∨ (chkFl F = 0 ∧ 1 ≤ F.length ∧ F.length ≤ 32 ∧ ∀ b ∈ F, b.size = 128) := by
  unfold chkFl
  by_cases h : F.length < 1 ∨ 32 < F.length
  · exact .inl ⟨if_pos h, h⟩
  · rw [if_neg h]
    by_cases h2 : F.all (fun b => decide (b.size = 128)) = true
    · exact .inr (.inr ⟨if_pos h2, by omega, by omega, fun b hb => by simpa using List.all_eq_true.1 h2 b hb⟩)
    · refine .inr (.inl ⟨if_neg h2, by omega, by omega, ?_⟩)
      simpa using h2
theorem joinM_length : ∀ {F : List ByteArray}, (∀ b ∈ F, b.size = 128) → (joinM F).length = F.length * 128
  | [], _ => rfl
  | b :: F, h => by
    unfold joinM
    rw [List.flatMap_cons, List.length_append]
    have := joinM_length (F := F) fun x hx => h x (List.mem_cons_of_mem _ hx)
    unfold joinM at this
    have hb := h b (List.mem_cons_self ..)
    rw [this, List.length_cons]
    have e : b.data.toList.length = b.size := by simp
    omega
theorem chkDeed_cases (n : Nat) (d : Deed) : (chkDeed n d = 7 ∧ d.kind ≠ 1 ∧ d.kind ≠ 2) ∨
    (d.kind = 1 ∧ ((chkDeed n d = 3 ∧ d.pos < 0) ∨ (chkDeed n d = 3 ∧ 0 ≤ d.pos ∧ (n : Int) ≤ d.pos) ∨ (chkDeed n d = 3 ∧ 0 ≤ d.pos ∧ d.pos < n ∧ d.val < 0) ∨ (chkDeed n d = 3 ∧ 0 ≤ d.pos ∧ d.pos < n ∧ 0 ≤ d.val ∧ 255 < d.val) ∨ (chkDeed n d = 0 ∧ 0 ≤ d.pos ∧ d.pos < n ∧ 0 ≤ d.val ∧ d.val ≤ 255))) ∨
    (d.kind = 2 ∧ ((chkDeed n d = 3 ∧ d.pos < 0) ∨ (chkDeed n d = 3 ∧ 0 ≤ d.pos ∧ ((n / 128 : Nat) : Int) ≤ d.pos) ∨ (chkDeed n d = 3 ∧ 0 ≤ d.pos ∧ d.pos < ((n / 128 : Nat) : Int) ∧ d.val < 0) ∨ (chkDeed n d = 3 ∧ 0 ≤ d.pos ∧ d.pos < ((n / 128 : Nat) : Int) ∧ 0 ≤ d.val ∧ 0 < d.val) ∨ (chkDeed n d = 0 ∧ 0 ≤ d.pos ∧ d.pos < ((n / 128 : Nat) : Int) ∧ d.val = 0))) := by
  unfold chkDeed
  by_cases h1 : d.kind = 1
  · refine .inr (.inl ⟨h1, ?_⟩)
    rw [if_pos h1]
    by_cases a : d.pos < 0
    · exact .inl ⟨if_pos (by omega), a⟩
    by_cases b : (n : Int) ≤ d.pos
    · exact .inr (.inl ⟨if_pos (by omega), by omega, b⟩)
    by_cases c : d.val < 0
    · exact .inr (.inr (.inl ⟨if_pos (by omega), by omega, by omega, c⟩))
    by_cases e : 255 < d.val
    · exact .inr (.inr (.inr (.inl ⟨if_pos (by omega), by omega, by omega, by omega, e⟩)))
    · exact .inr (.inr (.inr (.inr ⟨if_neg (by omega), by omega, by omega, by omega, by omega⟩)))
  · rw [if_neg h1]
    by_cases h2 : d.kind = 2
    · refine .inr (.inr ⟨h2, ?_⟩)
      rw [if_pos h2]
      by_cases a : d.pos < 0
      · exact .inl ⟨if_pos (by omega), a⟩
      by_cases b : ((n / 128 : Nat) : Int) ≤ d.pos
      · exact .inr (.inl ⟨if_pos (by omega), by omega, b⟩)
      by_cases c : d.val < 0
      · exact .inr (.inr (.inl ⟨if_pos (by omega), by omega, by omega, c⟩))
      by_cases e : 0 < d.val
      · exact .inr (.inr (.inr (.inl ⟨if_pos (by omega), by omega, by omega, by omega, e⟩)))
      · exact .inr (.inr (.inr (.inr ⟨if_neg (by omega), by omega, by omega, by omega⟩)))
    · exact .inl ⟨if_neg h2, h1, h2⟩

theorem bits_and_u8 (a b : UInt8) : bits .and .u8 (a.toNat : Int) (b.toNat : Int) = ((a &&& b).toNat : Int) := by
  rw [(bits_nat .u8 8 (by decide) wraps_u8 a.toNat b.toNat a.toNat_lt b.toNat_lt).1, UInt8.toNat_and]
theorem bits_xor_u8 (a b : UInt8) : bits .xor .u8 (a.toNat : Int) (b.toNat : Int) = ((a ^^^ b).toNat : Int) := by
  have h1 : (BitVec.ofInt 8 (a.toNat : Int)).toNat = a.toNat := by
    rw [BitVec.ofInt_natCast, BitVec.toNat_ofNat]; exact Nat.mod_eq_of_lt a.toNat_lt
  have h2 : (BitVec.ofInt 8 (b.toNat : Int)).toNat = b.toNat := by
    rw [BitVec.ofInt_natCast, BitVec.toNat_ofNat]; exact Nat.mod_eq_of_lt b.toNat_lt
  show IntKind.u8.wrap ((BitVec.ofInt 8 (a.toNat : Int) ^^^ BitVec.ofInt 8 (b.toNat : Int)).toNat : Int) = _
  rw [BitVec.toNat_xor, h1, h2, IntKind.wrap_u8, ← UInt8.toNat_xor]
  have := (a ^^^ b).toNat_lt
  omega
theorem bits_andNot_u8 (a b : UInt8) : bits .andNot .u8 (a.toNat : Int) (b.toNat : Int) = ((a &&& ~~~b).toNat : Int) := by
  have h1 : (BitVec.ofInt 8 (a.toNat : Int)) = a.toBitVec := by
    apply BitVec.eq_of_toNat_eq
    rw [BitVec.ofInt_natCast, BitVec.toNat_ofNat]; exact Nat.mod_eq_of_lt a.toNat_lt
  have h2 : (BitVec.ofInt 8 (b.toNat : Int)) = b.toBitVec := by
    apply BitVec.eq_of_toNat_eq
    rw [BitVec.ofInt_natCast, BitVec.toNat_ofNat]; exact Nat.mod_eq_of_lt b.toNat_lt
  show IntKind.u8.wrap ((BitVec.ofInt 8 (a.toNat : Int) &&& ~~~BitVec.ofInt 8 (b.toNat : Int)).toNat : Int) = _
  rw [h1, h2, IntKind.wrap_u8]
  show (((a &&& ~~~b).toNat : Nat) : Int) % 256 = _
  have := (a &&& ~~~b).toNat_lt
  omega

end Go.Proofs.Ytnomapbiklfciaf
