/- Texts that are laid together. -/
import Derived.Test.YthmohjgdcjafkagMrgH
import Derived.Laws.BitsLemmas
import Derived.Laws.EntriesVeiled
import Derived.Laws.IdiomCopy

/- Flashes as data. -/
namespace Go.Proofs.Ythmohjgdcjafkag
open Go.RowKit Go.PlainAid

structure Deed where
  kind : Int
  pos : Int
  val : Int
def Deed.cell (d : Deed) : Nat → Value
  | 0 => .int .i64 d.kind
  | 1 => .int .i64 d.pos
  | _ => .int .i64 d.val
def Deed.value (d : Deed) : Value := .agg #[.int .i64 d.kind, .int .i64 d.pos, .int .i64 d.val]

/-- What is wrong with a flash. -/
def chkFl (F : List ByteArray) : Int := if F.length < 1 ∨ 32 < F.length then 3 else if F.all (fun b => decide (b.size = 128)) then 0 else 1
/-- All its bytes. -/
def joinM (F : List ByteArray) : List UInt8 := F.flatMap (·.data.toList)
/-- The blocks of some bytes. -/
def blockAt (c : List UInt8) (i : Nat) : ByteArray := ⟨((c.drop (i * 128)).take 128).toArray⟩
def blocksM (c : List UInt8) : List ByteArray := (List.range (c.length / 128)).map (blockAt c)

/-- What is wrong with a deed, at so many bytes. -/
def chkDeed (n : Nat) (d : Deed) : Int :=
  if d.kind = 1 then (if d.pos < 0 ∨ (n : Int) ≤ d.pos ∨ d.val < 0 ∨ 255 < d.val then 3 else 0)
  else if d.kind = 2 then (if d.pos < 0 ∨ ((n / 128 : Nat) : Int) ≤ d.pos ∨ d.val ≠ 0 then 3 else 0)
  else 7

/-- Where a deed's bytes begin, how many they are, what becomes of each. -/
def Deed.start (d : Deed) : Nat := if d.kind = 2 then d.pos.toNat * 128 else d.pos.toNat
def Deed.many (d : Deed) : Nat := if d.kind = 2 then 128 else 1
def Deed.bec (d : Deed) (b : UInt8) : UInt8 := if d.kind = 2 then 255 else b &&& UInt8.ofNat d.val.toNat

/-- The bytes with those from s on, k of them, turned. -/
def turnK (t : Nat → UInt8 → UInt8) (d : Deed) (s k : Nat) (c : List UInt8) : List UInt8 :=
  c.mapIdx fun j b => if s ≤ j ∧ j < s + k then b ^^^ t (j - s) (b ^^^ d.bec b) else b
def turnM (t : Nat → UInt8 → UInt8) (d : Deed) (c : List UInt8) : List UInt8 := turnK t d d.start d.many c

/-- Deeds, one by one. -/
def doFrom (t : Nat → UInt8 → UInt8) : List UInt8 → List Deed → List UInt8 × Int
  | c, [] => (c, 0)
  | c, d :: r => if chkDeed c.length d ≠ 0 then ([], chkDeed c.length d) else doFrom t (turnM t d c) r
def chgRes (t : Nat → UInt8 → UInt8) (F : List ByteArray) (l : List Deed) : List ByteArray × Int :=
  if chkFl F ≠ 0 then ([], chkFl F) else if (doFrom t (joinM F) l).2 ≠ 0 then ([], (doFrom t (joinM F) l).2) else (blocksM (doFrom t (joinM F) l).1, 0)

def allT (_ : Nat) (b : UInt8) : UInt8 := b
def tornT (kind : Int) (p : ByteArray) : Nat → UInt8 → UInt8 :=
  if kind = 2 then fun i b => if i < p.size then b &&& p.data.toList.getD i 0 else 0
  else fun _ b => b &&& ~~~ (if p.size = 0 then 255 else p.data.toList.getD 0 0)

theorem turnK_length (t : Nat → UInt8 → UInt8) (d : Deed) (s k : Nat) (c : List UInt8) : (turnK t d s k c).length = c.length := by unfold turnK; rw [List.length_mapIdx]
theorem turnM_length (t : Nat → UInt8 → UInt8) (d : Deed) (c : List UInt8) : (turnM t d c).length = c.length := turnK_length _ _ _ _ _
theorem turnK_at (t : Nat → UInt8 → UInt8) (d : Deed) (s k : Nat) (c : List UInt8) (j : Nat) : (turnK t d s k c)[j]? = (c[j]?).map fun b => if s ≤ j ∧ j < s + k then b ^^^ t (j - s) (b ^^^ d.bec b) else b := by
  unfold turnK
  rw [List.getElem?_mapIdx]
theorem turnK_zero (t : Nat → UInt8 → UInt8) (d : Deed) (s : Nat) (c : List UInt8) : turnK t d s 0 c = c := by
  apply List.ext_getElem?
  intro j
  rw [turnK_at]
  cases c[j]? with
  | none => rfl
  | some b => simp only [Option.map_some]; rw [if_neg (by omega)]
theorem turnK_next (t : Nat → UInt8 → UInt8) (d : Deed) (s k : Nat) (c : List UInt8) (b : UInt8) (h : c[s + k]? = some b) : (turnK t d s k c).set (s + k) (b ^^^ t k (b ^^^ d.bec b)) = turnK t d s (k + 1) c := by
  apply List.ext_getElem?
  intro j
  rw [List.getElem?_set, turnK_at, turnK_at, turnK_length]
  by_cases hj : s + k = j
  · subst hj
    rw [if_pos rfl, h]
    have hlt : s + k < c.length := (List.getElem?_eq_some_iff.1 h).1
    rw [if_pos hlt]
    simp only [Option.map_some]
    rw [if_pos (by omega), Nat.add_sub_cancel_left]
  · rw [if_neg hj]
    cases c[j]? with
    | none => rfl
    | some x =>
      simp only [Option.map_some]
      by_cases h1 : s ≤ j ∧ j < s + k
      · rw [if_pos h1, if_pos (by omega)]
      · rw [if_neg h1, if_neg (by omega)]
theorem turnK_same (t : Nat → UInt8 → UInt8) (d : Deed) (s k : Nat) (c : List UInt8) : (turnK t d s k c)[s + k]? = c[s + k]? := by
  rw [turnK_at]
  cases c[s + k]? with
  | none => rfl
  | some x => simp only [Option.map_some]; rw [if_neg (by omega)]

theorem chkFl_cases (F : List ByteArray) : (chkFl F = 3 ∧ (F.length < 1 ∨ 32 < F.length)) ∨ (chkFl F = 1 ∧ 1 ≤ F.length ∧ F.length ≤ 32 ∧ ∃ b ∈ F, b.size ≠ 128) ∨ (chkFl F = 0 ∧ 1 ≤ F.length ∧ F.length ≤ 32 ∧ ∀ b ∈ F, b.size = 128) := by
  unfold chkFl
  by_cases h : F.length < 1 ∨ 32 < F.length
  · exact .inl ⟨if_pos h, h⟩
  · rw [if_neg h]
    by_cases h2 : F.all (fun b => decide (b.size = 128)) = true
    · exact .inr (.inr ⟨if_pos h2, by omega, by omega, fun b hb => by simpa using List.all_eq_true.1 h2 b hb⟩)
    · refine .inr (.inl ⟨if_neg h2, by omega, by omega, ?_⟩)
      simpa using h2
theorem joinM_length : ∀ {F : List ByteArray}, (∀ b ∈ F, b.size = 128) → (joinM F).length = F.length * 128
  | [], _ => rfl
  | b :: F, h => by
    unfold joinM
    rw [List.flatMap_cons, List.length_append]
    have := joinM_length (F := F) fun x hx => h x (List.mem_cons_of_mem _ hx)
    unfold joinM at this
    have hb := h b (List.mem_cons_self ..)
    rw [this, List.length_cons]
    have e : b.data.toList.length = b.size := by simp
    omega
theorem chkDeed_cases (n : Nat) (d : Deed) : (chkDeed n d = 7 ∧ d.kind ≠ 1 ∧ d.kind ≠ 2) ∨
    (d.kind = 1 ∧ ((chkDeed n d = 3 ∧ d.pos < 0) ∨ (chkDeed n d = 3 ∧ 0 ≤ d.pos ∧ (n : Int) ≤ d.pos) ∨ (chkDeed n d = 3 ∧ 0 ≤ d.pos ∧ d.pos < n ∧ d.val < 0) ∨ (chkDeed n d = 3 ∧ 0 ≤ d.pos ∧ d.pos < n ∧ 0 ≤ d.val ∧ 255 < d.val) ∨ (chkDeed n d = 0 ∧ 0 ≤ d.pos ∧ d.pos < n ∧ 0 ≤ d.val ∧ d.val ≤ 255))) ∨
    (d.kind = 2 ∧ ((chkDeed n d = 3 ∧ d.pos < 0) ∨ (chkDeed n d = 3 ∧ 0 ≤ d.pos ∧ ((n / 128 : Nat) : Int) ≤ d.pos) ∨ (chkDeed n d = 3 ∧ 0 ≤ d.pos ∧ d.pos < ((n / 128 : Nat) : Int) ∧ d.val < 0) ∨ (chkDeed n d = 3 ∧ 0 ≤ d.pos ∧ d.pos < ((n / 128 : Nat) : Int) ∧ 0 ≤ d.val ∧ 0 < d.val) ∨ (chkDeed n d = 0 ∧ 0 ≤ d.pos ∧ d.pos < ((n / 128 : Nat) : Int) ∧ d.val = 0))) := by
  unfold chkDeed
  by_cases h1 : d.kind = 1
  · refine .inr (.inl ⟨h1, ?_⟩)
    rw [if_pos h1]
    by_cases a : d.pos < 0
    · exact .inl ⟨if_pos (by omega), a⟩
    by_cases b : (n : Int) ≤ d.pos
    · exact .inr (.inl ⟨if_pos (by omega), by omega, b⟩)
    by_cases c : d.val < 0
    · exact .inr (.inr (.inl ⟨if_pos (by omega), by omega, by omega, c⟩))
    by_cases e : 255 < d.val
    · exact .inr (.inr (.inr (.inl ⟨if_pos (by omega), by omega, by omega, by omega, e⟩)))
    · exact .inr (.inr (.inr (.inr ⟨if_neg (by omega), by omega, by omega, by omega, by omega⟩)))
  · rw [if_neg h1]
    by_cases h2 : d.kind = 2
    · refine .inr (.inr ⟨h2, ?_⟩)
      rw [if_pos h2]
      by_cases a : d.pos < 0
      · exact .inl ⟨if_pos (by omega), a⟩
      by_cases b : ((n / 128 : Nat) : Int) ≤ d.pos
      · exact .inr (.inl ⟨if_pos (by omega), by omega, b⟩)
      by_cases c : d.val < 0
      · exact .inr (.inr (.inl ⟨if_pos (by omega), by omega, by omega, c⟩))
      by_cases e : 0 < d.val
      · exact .inr (.inr (.inr (.inl ⟨if_pos (by omega), by omega, by omega, by omega, e⟩)))
      · exact .inr (.inr (.inr (.inr ⟨if_neg (by omega), by omega, by omega, by omega⟩)))
    · exact .inl ⟨if_neg h2, h1, h2⟩

theorem bits_and_u8 (a b : UInt8) : bits .and .u8 (a.toNat : Int) (b.toNat : Int) = ((a &&& b).toNat : Int) := by
  rw [(bits_nat .u8 8 (by decide) wraps_u8 a.toNat b.toNat a.toNat_lt b.toNat_lt).1, UInt8.toNat_and]
theorem bits_xor_u8 (a b : UInt8) : bits .xor .u8 (a.toNat : Int) (b.toNat : Int) = ((a ^^^ b).toNat : Int) := by
  have h1 : (BitVec.ofInt 8 (a.toNat : Int)).toNat = a.toNat := by
    rw [BitVec.ofInt_natCast, BitVec.toNat_ofNat]; exact Nat.mod_eq_of_lt a.toNat_lt
  have h2 : (BitVec.ofInt 8 (b.toNat : Int)).toNat = b.toNat := by
    rw [BitVec.ofInt_natCast, BitVec.toNat_ofNat]; exact Nat.mod_eq_of_lt b.toNat_lt
  show IntKind.u8.wrap ((BitVec.ofInt 8 (a.toNat : Int) ^^^ BitVec.ofInt 8 (b.toNat : Int)).toNat : Int) = _
  rw [BitVec.toNat_xor, h1, h2, IntKind.wrap_u8, ← UInt8.toNat_xor]
  have := (a ^^^ b).toNat_lt
  omega
theorem bits_andNot_u8 (a b : UInt8) : bits .andNot .u8 (a.toNat : Int) (b.toNat : Int) = ((a &&& ~~~b).toNat : Int) := by
  have h1 : (BitVec.ofInt 8 (a.toNat : Int)) = a.toBitVec := by
    apply BitVec.eq_of_toNat_eq
    rw [BitVec.ofInt_natCast, BitVec.toNat_ofNat]; exact Nat.mod_eq_of_lt a.toNat_lt
  have h2 : (BitVec.ofInt 8 (b.toNat : Int)) = b.toBitVec := by
    apply BitVec.eq_of_toNat_eq
    rw [BitVec.ofInt_natCast, BitVec.toNat_ofNat]; exact Nat.mod_eq_of_lt b.toNat_lt
  show IntKind.u8.wrap ((BitVec.ofInt 8 (a.toNat : Int) &&& ~~~BitVec.ofInt 8 (b.toNat : Int)).toNat : Int) = _
  rw [h1, h2, IntKind.wrap_u8]
  show (((a &&& ~~~b).toNat : Nat) : Int) % 256 = _
  have := (a &&& ~~~b).toNat_lt
  omega

end Go.Proofs.Ythmohjgdcjafkag

/- The contracts of package flash's small functions: mayBe, Check, wrong, becomes, reach. -/
namespace Go.Proofs.Ythmohjgdcjafkag
open Go.RowKit Go.PlainAid

set_option maxRecDepth 100000

theorem mayBe_any (n : Int) (w : World) : Calls Try.prog 30 #[.int .i64 n] w fun e w' => e = .returned (.bool (decide (1 ≤ n ∧ n ≤ 32))) ∧ w' = w := by
  by_cases h1 : 1 ≤ n
  · by_cases h2 : n ≤ 32
    · have e : decide (1 ≤ n ∧ n ≤ 32) = true := decide_eq_true ⟨h1, h2⟩
      have g1 : decide (1 ≤ n) = true := decide_eq_true h1
      have g2 : decide (n ≤ 32) = true := decide_eq_true h2
      rw [e]
      clear e
      go_enter Try.func30, Try.ntmps30
      go_wp2
      go_ret
      exact ⟨rfl, rfl⟩
    · have e : decide (1 ≤ n ∧ n ≤ 32) = false := decide_eq_false (by omega)
      have g1 : decide (1 ≤ n) = true := decide_eq_true h1
      have g2 : decide (n ≤ 32) = false := decide_eq_false h2
      rw [e]
      clear e
      go_enter Try.func30, Try.ntmps30
      go_wp2
      go_ret
      exact ⟨rfl, rfl⟩
  · have e : decide (1 ≤ n ∧ n ≤ 32) = false := decide_eq_false (by omega)
    have g1 : decide (1 ≤ n) = false := decide_eq_false h1
    rw [e]
    clear e
    go_enter Try.func30, Try.ntmps30
    go_wp2
    go_ret
    exact ⟨rfl, rfl⟩

set_option maxHeartbeats 1000000 in
theorem flCheck_any (F : List ByteArray) (v : Value) (w : World) (hF : RowOf 1 strCell w.heap.size w v F) :
    Calls Try.prog 21 #[.agg #[v]] w fun e w' => e = .returned (.int .i64 (chkFl F)) ∧ Below w.heap.size w w' := by
  obtain ⟨a, cap, rfl, hmx, hrow⟩ := hF
  have key := chkFl_cases F
  generalize chkFl F = cf at *
  have HB : Hid (Below w.heap.size w (w.alloc (.cells #[.slice a F.length cap] 26))) := (Below.refl _ _).alloc (Nat.le_refl _) _
  go_enter Try.func21, Try.ntmps21
  go_wp2_with fail
  refine (mayBe_any _ _).mono ?_
  rintro e w2 ⟨rfl, rfl⟩
  rcases key with ⟨rfl, h⟩ | key
  · have g : decide (1 ≤ (F.length : Int) ∧ (F.length : Int) ≤ 32) = false := decide_eq_false (by omega)
    rw [g]
    clear g
    go_wp2
    go_ret
    exact ⟨rfl, HB.out⟩
  · have hl : 1 ≤ F.length ∧ F.length ≤ 32 := by rcases key with ⟨_, h1, h2, _⟩ | ⟨_, h1, h2, _⟩ <;> exact ⟨h1, h2⟩
    have g : decide (1 ≤ (F.length : Int) ∧ (F.length : Int) ≤ 32) = true := decide_eq_true (by omega)
    rw [g]
    clear g
    have HK : Hid (cf = if F.all (fun b => decide (b.size = 128)) then 0 else 1) := by
      show cf = _
      rcases key with ⟨rfl, _, _, b, hb, hne⟩ | ⟨rfl, _, _, hall⟩
      · rw [if_neg]
        intro h
        exact hne (by simpa using List.all_eq_true.1 h b hb)
      · rw [if_pos]
        exact List.all_eq_true.2 fun b hb => by simpa using hall b hb
    clear key
    go_wp2
    go_loopw [13] (fun i wr => ∃ (k : Nat), k ≤ F.length ∧ i = .int .i64 k ∧ Hid (cf = if (F.drop k).all (fun b => decide (b.size = 128)) then 0 else 1) ∧ Below w.heap.size w wr) (fun i _ => F.length - (intOf i).toNat)
    case atStart => exact ⟨0, Nat.zero_le _, rfl, HK, HB.out⟩
    case round =>
      obtain ⟨k, hk, rfl, HC, B⟩ := hrel
      clear HK HB
      by_cases hlt : k < F.length
      · obtain ⟨x, hx⟩ : ∃ x, F[k]? = some x := ⟨_, List.getElem?_eq_getElem hlt⟩
        rcases hrow with h | ⟨b, off, rfl, hbn, hcells⟩
        · subst h; simp at hlt
        have c0 := (B.cell (p := ⟨b, off + k * 1 + 0, none⟩) hbn).trans (hcells k _ hx 0 (by omega))
        dsimp only [strCell] at c0
        rw [Nat.add_zero, Nat.mul_one] at c0
        have HR : Hid (cf = if decide (x.size = 128) && (F.drop (k + 1)).all (fun b => decide (b.size = 128)) then 0 else 1) := by
          show cf = _
          rw [HC.out, drop_at hx, List.all_cons]
        clear HC hcells hx
        by_cases hs : x.size = 128
        · have HR2 : Hid (cf = if (F.drop (k + 1)).all (fun b => decide (b.size = 128)) then 0 else 1) := by
            show cf = _
            rw [HR.out, decide_eq_true hs, Bool.true_and]
          clear HR
          go_wp2
          exact ⟨⟨k + 1, by omega, by go_num, HR2, B⟩, by simp [intOf]; omega⟩
        · have HR2 : Hid (cf = 1) := by
            show cf = _
            rw [HR.out, decide_eq_false hs]; rfl
          clear HR
          go_wp2
          go_ret
          exact ⟨by rw [HR2.out]; rfl, B⟩
      · obtain rfl : k = F.length := by omega
        have HZ : Hid (cf = 0) := by
          show cf = _
          rw [HC.out, List.drop_length]; rfl
        go_wp2
        go_ret
        exact ⟨by rw [HZ.out]; rfl, B⟩

set_option maxHeartbeats 1000000 in
theorem wrongD_any (a : Option Addr) (n cap : Nat) (d : Deed) (w : World) (hn : n ≤ 4096) :
    Calls Try.prog 45 #[.slice a n cap, d.value] w fun e w' => e = .returned (.int .i64 (chkDeed n d)) ∧ Below w.heap.size w w' := by
  have key := chkDeed_cases n d
  obtain ⟨kd, ps, vl⟩ := d
  unfold Deed.value
  dsimp only at *
  generalize chkDeed n ⟨kd, ps, vl⟩ = cd at *
  have e128 : ((n : Int) / 128) = ((n / 128 : Nat) : Int) := by omega
  have HB : Hid (Below w.heap.size w (w.alloc (.cells #[.int .i64 kd, .int .i64 ps, .int .i64 vl] 40))) := (Below.refl _ _).alloc (Nat.le_refl _) _
  go_enter Try.func45, Try.ntmps45
  rcases key with ⟨rfl, h1, h2⟩ | ⟨rfl, key⟩ | ⟨rfl, key⟩
  · have h1' : (kd == 1) = false := by simpa using h1
    have h2' : (kd == 2) = false := by simpa using h2
    go_wp2
    go_ret
    exact ⟨rfl, HB.out⟩
  · rcases key with ⟨rfl, h⟩ | ⟨rfl, h1, h⟩ | ⟨rfl, h1, h2, h⟩ | ⟨rfl, h1, h2, h3, h⟩ | ⟨rfl, h1, h2, h3, h4⟩
    all_goals
      go_wp2
      go_ret
      exact ⟨rfl, HB.out⟩
  · generalize n / 128 = m at *
    rcases key with ⟨rfl, h⟩ | ⟨rfl, h1, h⟩ | ⟨rfl, h1, h2, h⟩ | ⟨rfl, h1, h2, h3, h⟩ | ⟨rfl, h1, h2, h3⟩
    all_goals
      go_wp2
      go_ret
      exact ⟨rfl, (Below.refl _ _).alloc (Nat.le_refl _) _⟩

end Go.Proofs.Ythmohjgdcjafkag

/- The contracts of package flash's becomes, reach and turn. -/
namespace Go.Proofs.Ythmohjgdcjafkag
open Go.RowKit Go.PlainAid

set_option maxRecDepth 100000

/-- The first cells of block g hold these bytes, and may be written. -/
structure CellsB (W : World) (g : Nat) (c : List UInt8) : Prop where
  lt : g < W.heap.size
  holds : ∀ j x, c[j]? = some x → W.cell? ⟨g, j, none⟩ = some (.int .u8 (x.toNat : Int))
  free : ∀ j, j < c.length → W.frozen? ⟨g, j, none⟩ = false

theorem CellsB.kept {W W' : World} {g n : Nat} {c : List UInt8} (h : CellsB W g c) (hb : Below n W W') (hn : g < n) : CellsB W' g c :=
  ⟨Nat.lt_of_lt_of_le h.lt hb.size, fun j x hx => (hb.cell (p := ⟨g, j, none⟩) hn).trans (h.holds j x hx), fun j hj => (hb.frozen (p := ⟨g, j, none⟩) hn).trans (h.free j hj)⟩
theorem CellsB.below {W W' : World} {g : Nat} {c : List UInt8} (h : CellsB W g c) (hb : Below W.heap.size W W') : CellsB W' g c := h.kept hb h.lt
theorem cell_set_other (W : World) (g i j : Nat) (v : Value) (h : j ≠ i) : (W.setCell ⟨g, i, none⟩ v).cell? ⟨g, j, none⟩ = W.cell? ⟨g, j, none⟩ := by
  have := World.cell?_setCells_out g [v] i W ⟨g, j, none⟩ (fun _ _ => by simp; omega)
  simpa [World.setCells] using this
theorem cell_set_same (W : World) (g i : Nat) (v : Value) (h : (W.cell? ⟨g, i, none⟩).isSome = true) : (W.setCell ⟨g, i, none⟩ v).cell? ⟨g, i, none⟩ = some v := by
  have := World.cell?_setCells_in g [v] i W (fun j hj => by
    obtain rfl : j = 0 := by simpa using hj
    simpa using h) 0 (by simp)
  simpa [World.setCells] using this
theorem frozen_set (W : World) (g i : Nat) (v : Value) (x : Addr) : (W.setCell ⟨g, i, none⟩ v).frozen? x = W.frozen? x := by
  exact World.frozen?_setCells g [v] i W x
theorem CellsB.set {W : World} {g : Nat} {c : List UInt8} (h : CellsB W g c) (i : Nat) (b : UInt8) (hi : i < c.length) : CellsB (W.setCell ⟨g, i, none⟩ (.int .u8 (b.toNat : Int))) g (c.set i b) := by
  refine ⟨by simp only [World.setCell, Array.size_modify]; exact h.lt, fun j x hx => ?_, fun j hj => ?_⟩
  · rw [List.getElem?_set] at hx
    by_cases hij : i = j
    · subst hij
      rw [if_pos rfl, if_pos hi] at hx
      injection hx with hx
      subst hx
      exact cell_set_same W g i _ (by rw [h.holds i c[i] (List.getElem?_eq_getElem hi)]; rfl)
    · rw [if_neg hij] at hx
      rw [cell_set_other W g i j _ (by omega)]
      exact h.holds j x hx
  · rw [frozen_set]
    exact h.free j (by rwa [List.length_set] at hj)

/-- A deed that is right, at so many bytes. -/
theorem deed_right {n : Nat} {d : Deed} (h : chkDeed n d = 0) : 0 ≤ d.pos ∧ 0 ≤ d.val ∧ d.val ≤ 255 ∧ d.start + d.many ≤ n ∧ ((d.kind = 1 ∧ d.start = d.pos.toNat ∧ d.many = 1) ∨ (d.kind = 2 ∧ d.val = 0 ∧ d.start = d.pos.toNat * 128 ∧ d.many = 128)) := by
  rcases chkDeed_cases n d with ⟨e, _⟩ | ⟨hk, key⟩ | ⟨hk, key⟩
  · rw [e] at h; cases h
  · unfold Deed.start Deed.many
    rw [if_neg (by omega), if_neg (by omega)]
    rcases key with ⟨e, _⟩ | ⟨e, _⟩ | ⟨e, _⟩ | ⟨e, _⟩ | ⟨e, h1, h2, h3, h4⟩
    all_goals first | (rw [e] at h; cases h; done) | exact ⟨h1, h3, h4, by omega, .inl ⟨hk, rfl, rfl⟩⟩
  · unfold Deed.start Deed.many
    rw [if_pos hk, if_pos hk]
    rcases key with ⟨e, _⟩ | ⟨e, _⟩ | ⟨e, _⟩ | ⟨e, _⟩ | ⟨e, h1, h2, h3⟩
    all_goals first | (rw [e] at h; cases h; done) | exact ⟨h1, by omega, by omega, by omega, .inr ⟨hk, h3, rfl, rfl⟩⟩

set_option maxHeartbeats 1000000 in
theorem reach_any (g n cap : Nat) (d : Deed) (w : World) (hn : n ≤ 4096) (hc : n ≤ cap) (hm : cap ≤ 9223372036854775807) (h0 : chkDeed n d = 0) :
    Calls Try.prog 54 #[.slice (some ⟨g, 0, none⟩) n cap, d.value] w fun e w' => e = .returned (.slice (some ⟨g, d.start, none⟩) d.many (cap - d.start)) ∧ Below w.heap.size w w' := by
  obtain ⟨p0, v0, v1, hle, key⟩ := deed_right h0
  clear h0
  generalize d.start = st at *
  generalize d.many = mn at *
  obtain ⟨kd, ps, vl⟩ := d
  unfold Deed.value
  dsimp only at *
  obtain ⟨p, rfl⟩ : ∃ p : Nat, ps = p := ⟨ps.toNat, by omega⟩
  rw [Int.toNat_natCast] at key
  rcases key with ⟨rfl, rfl, rfl⟩ | ⟨rfl, rfl, rfl, rfl⟩
  · go_enter Try.func54, Try.ntmps54
    have hne : ¬ (cap = st) := by omega
    go_wp2
    go_ret
    refine ⟨?_, (Below.refl _ _).alloc (Nat.le_refl _) _⟩
    first | rfl | simp | trace_state
  · have e1 : IntKind.i64.wrap ((p : Int) * 128) = ((p * 128 : Nat) : Int) := by rw [i64_is]; unfold wrap64; omega
    generalize p * 128 = q at *
    have hne : ¬ (cap = q) := by omega
    go_enter Try.func54, Try.ntmps54
    go_wp2
    go_ret
    refine ⟨?_, (Below.refl _ _).alloc (Nat.le_refl _) _⟩
    first | rfl | simp | trace_state

set_option maxHeartbeats 1000000 in
theorem becomes_any (n : Nat) (d : Deed) (b : UInt8) (w : World) (h0 : chkDeed n d = 0) :
    Calls Try.prog 55 #[d.value, .int .u8 (b.toNat : Int)] w fun e w' => e = .returned (.int .u8 ((d.bec b).toNat : Int)) ∧ Below w.heap.size w w' := by
  obtain ⟨p0, v0, v1, hle, key⟩ := deed_right h0
  have HE : Hid (d.kind ≠ 2 → (bits .and .u8 (b.toNat : Int) d.val) = ((d.bec b).toNat : Int)) := by
    intro hk
    unfold Deed.bec
    rw [if_neg hk, ← bits_and_u8]
    congr 1
    have : (UInt8.ofNat d.val.toNat).toNat = d.val.toNat := by
      rw [UInt8.toNat_ofNat']; exact Nat.mod_eq_of_lt (by omega)
    omega
  have HT : Hid (d.kind = 2 → (255 : Int) = ((d.bec b).toNat : Int)) := by
    intro hk
    unfold Deed.bec
    rw [if_pos hk]; rfl
  clear h0 hle
  generalize d.bec b = r at *
  obtain ⟨kd, ps, vl⟩ := d
  unfold Deed.value
  dsimp only at *
  rcases key with ⟨rfl, _⟩ | ⟨rfl, rfl, _⟩
  · go_enter Try.func55, Try.ntmps55
    go_wp2
    go_ret
    refine ⟨?_, (Below.refl _ _).alloc (Nat.le_refl _) _⟩
    rw [← HE.out (by first | decide | trivial)]
    first | rfl | (congr 2; done) | trace_state
  · go_enter Try.func55, Try.ntmps55
    go_wp2
    go_ret
    refine ⟨?_, (Below.refl _ _).alloc (Nat.le_refl _) _⟩
    rw [← HT.out (by first | rfl | trivial)]
    rfl

end Go.Proofs.Ythmohjgdcjafkag
