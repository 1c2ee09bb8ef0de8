/- The contracts of slices.IndexFunc and first, at exports and at placed modules. -/
import Derived.Test.YtaklbnabgcglhabResM
import Derived.Test.YtaklbnabgcglhabPatC
namespace Go.Proofs.Ytaklbnabgcglhab
open Go.RowKit Go.PlainAid

set_option maxRecDepth 100000

set_option maxHeartbeats 1000000 in
theorem idxExp_any (l : List Exp) (v : Value) (K : FuncId) (c : Value) (hK : ∀ w x, Sem.run Try.prog (callFunc K #[x, c]) w = .ok (.enter K #[x, c]) w) (p : Exp → Bool) (w : World) (hrow : RowOf 2 Exp.cell w.heap.size w v l)
    (hp : ∀ x ∈ l, ∀ W, Below w.heap.size w W → Calls Try.prog K #[.agg #[.string x.name, .int .i64 x.pos], c] W fun e W' => e = .returned (.bool (p x)) ∧ Below W.heap.size W W') :
    Calls Try.prog 109 #[v, .func (.func K) #[] #[c]] w fun e w' => e = .returned (.int .i64 (idxFrom p 0 l)) ∧ Below w.heap.size w w' := by
  obtain ⟨a, cap, rfl, _, hrow⟩ := hrow
  go_enter Try.func109, Try.ntmps109
  go_wp2
  go_loopw [8] (fun i wr => ∃ (k : Nat), k ≤ l.length ∧ i = .int .i64 k ∧ Hid (idxFrom p 0 l = idxFrom p k (l.drop k)) ∧ Below w.heap.size w wr) (fun i _ => l.length - (intOf i).toNat)
  case atStart => exact ⟨0, Nat.zero_le _, rfl, by show idxFrom p 0 l = idxFrom p 0 (l.drop 0); rfl, Below.refl _ _⟩
  case round =>
    obtain ⟨k, hk, rfl, HC, B⟩ := hrel
    by_cases hlt : k < l.length
    · obtain ⟨x, hx⟩ : ∃ x, l[k]? = some x := ⟨_, List.getElem?_eq_getElem hlt⟩
      rcases hrow with h | ⟨b, off, rfl, hbn, hcells⟩
      · subst h; simp at hlt
      have HP := hp x (List.mem_of_getElem? hx)
      obtain ⟨nm, ps⟩ := x
      have c0 := (B.cell (p := ⟨b, off + k * 2 + 0, none⟩) hbn).trans (hcells k _ hx 0 (by omega))
      have c1 := (B.cell (p := ⟨b, off + k * 2 + 1, none⟩) hbn).trans (hcells k _ hx 1 (by omega))
      dsimp only [Exp.cell] at c0 c1
      rw [Nat.add_zero] at c0
      have HR : Hid (idxFrom p 0 l = if p ⟨nm, ps⟩ then (k : Int) else idxFrom p (k + 1) (l.drop (k + 1))) := by
        show idxFrom p 0 l = _
        rw [HC.out, drop_at hx]; rfl
      have HP' : Hid (∀ W, Below w.heap.size w W → Calls Try.prog K #[.agg #[.string nm, .int .i64 ps], c] W fun e W' => e = .returned (.bool (p ⟨nm, ps⟩)) ∧ Below W.heap.size W W') := HP
      clear HC hcells hx HP
      generalize p ⟨nm, ps⟩ = t at HR HP'
      go_wp2_with fail
      refine Calls.mono (HP'.out _ B) ?_
      rintro e w2 ⟨rfl, b2⟩
      have B2 := B.trans (b2.mono B.size)
      clear b2 HP' c0 c1
      cases t
      · go_wp2
        exact ⟨⟨k + 1, by omega, by go_num, HR.out, B2⟩, by simp [intOf]; omega⟩
      · go_wp2
        go_ret
        exact ⟨by rw [HR.out]; rfl, B2⟩
    · obtain rfl : k = l.length := by omega
      have HZ : Hid (idxFrom p 0 l = -1) := by
        show idxFrom p 0 l = -1
        rw [HC.out, List.drop_length]; rfl
      go_wp2
      go_ret
      exact ⟨by rw [HZ.out]; rfl, B⟩

set_option maxHeartbeats 1000000 in
theorem idxPlc_any (l : List PV) (v : Value) (K : FuncId) (c : Value) (hK : ∀ w x, Sem.run Try.prog (callFunc K #[x, c]) w = .ok (.enter K #[x, c]) w) (p : PV → Bool) (w : World) (hrow : RowOf 8 PV.cell w.heap.size w v l)
    (hp : ∀ x ∈ l, ∀ W, Below w.heap.size w W → Calls Try.prog K #[x.val, c] W fun e W' => e = .returned (.bool (p x)) ∧ Below W.heap.size W W') :
    Calls Try.prog 83 #[v, .func (.func K) #[] #[c]] w fun e w' => e = .returned (.int .i64 (idxFrom p 0 l)) ∧ Below w.heap.size w w' := by
  obtain ⟨a, cap, rfl, _, hrow⟩ := hrow
  go_enter Try.func83, Try.ntmps83
  go_wp2
  go_loopw [8] (fun i wr => ∃ (k : Nat), k ≤ l.length ∧ i = .int .i64 k ∧ Hid (idxFrom p 0 l = idxFrom p k (l.drop k)) ∧ Below w.heap.size w wr) (fun i _ => l.length - (intOf i).toNat)
  case atStart => exact ⟨0, Nat.zero_le _, rfl, by show idxFrom p 0 l = idxFrom p 0 (l.drop 0); rfl, Below.refl _ _⟩
  case round =>
    obtain ⟨k, hk, rfl, HC, B⟩ := hrel
    by_cases hlt : k < l.length
    · obtain ⟨x, hx⟩ : ∃ x, l[k]? = some x := ⟨_, List.getElem?_eq_getElem hlt⟩
      rcases hrow with h | ⟨b, off, rfl, hbn, hcells⟩
      · subst h; simp at hlt
      have c0 := (B.cell (p := ⟨b, off + k * 8 + 0, none⟩) hbn).trans (hcells k _ hx 0 (by omega))
      have c1 := (B.cell (p := ⟨b, off + k * 8 + 1, none⟩) hbn).trans (hcells k _ hx 1 (by omega))
      have c2 := (B.cell (p := ⟨b, off + k * 8 + 2, none⟩) hbn).trans (hcells k _ hx 2 (by omega))
      have c3 := (B.cell (p := ⟨b, off + k * 8 + 3, none⟩) hbn).trans (hcells k _ hx 3 (by omega))
      have c4 := (B.cell (p := ⟨b, off + k * 8 + 4, none⟩) hbn).trans (hcells k _ hx 4 (by omega))
      have c5 := (B.cell (p := ⟨b, off + k * 8 + 5, none⟩) hbn).trans (hcells k _ hx 5 (by omega))
      have c6 := (B.cell (p := ⟨b, off + k * 8 + 6, none⟩) hbn).trans (hcells k _ hx 6 (by omega))
      have c7 := (B.cell (p := ⟨b, off + k * 8 + 7, none⟩) hbn).trans (hcells k _ hx 7 (by omega))
      dsimp only [PV.cell] at c0 c1 c2 c3 c4 c5 c6 c7
      rw [Nat.add_zero] at c0
      have HR : Hid (idxFrom p 0 l = if p x then (k : Int) else idxFrom p (k + 1) (l.drop (k + 1))) := by
        show idxFrom p 0 l = _
        rw [HC.out, drop_at hx]; rfl
      have HP' : Hid (∀ W, Below w.heap.size w W → Calls Try.prog K #[.agg #[.string x.mod.name, .int .i64 x.mod.major, .int .i64 x.mod.minor, .string x.mod.text, x.ve, x.vi, x.vp, .int .i64 x.first], c] W fun e W' => e = .returned (.bool (p x)) ∧ Below W.heap.size W W') := hp x (List.mem_of_getElem? hx)
      clear HC hcells hx
      generalize p x = t at HR HP'
      go_wp2_with fail
      refine Calls.mono (HP'.out _ B) ?_
      rintro e w2 ⟨rfl, b2⟩
      have B2 := B.trans (b2.mono B.size)
      clear b2 HP' c0 c1 c2 c3 c4 c5 c6 c7
      cases t
      · go_wp2
        exact ⟨⟨k + 1, by omega, by go_num, HR.out, B2⟩, by simp [intOf]; omega⟩
      · go_wp2
        go_ret
        exact ⟨by rw [HR.out]; rfl, B2⟩
    · obtain rfl : k = l.length := by omega
      have HZ : Hid (idxFrom p 0 l = -1) := by
        show idxFrom p 0 l = -1
        rw [HC.out, List.drop_length]; rfl
      go_wp2
      go_ret
      exact ⟨by rw [HZ.out]; rfl, B⟩

theorem idx_find {α : Type} (p : α → Bool) : ∀ (l : List α) (k : Nat), (l.find? p = none ∧ idxFrom p k l = -1) ∨ ∃ j x, l.find? p = some x ∧ l[j]? = some x ∧ idxFrom p k l = ((k + j : Nat) : Int)
  | [], _ => .inl ⟨rfl, rfl⟩
  | y :: l, k => by
    unfold idxFrom
    cases hy : p y
    · rcases idx_find p l (k + 1) with ⟨h1, h2⟩ | ⟨j, x, h1, h2, h3⟩
      · exact .inl ⟨by rw [List.find?_cons, hy]; exact h1, by simpa using h2⟩
      · refine .inr ⟨j + 1, x, by rw [List.find?_cons, hy]; exact h1, by simpa using h2, ?_⟩
        rw [if_neg (by decide), h3]
        congr 1; omega
    · exact .inr ⟨0, y, by rw [List.find?_cons, hy], rfl, by simp⟩

/-- first: an export, or none. -/
def optExp : Option Exp → Value
  | none => .tuple #[.agg #[.string ⟨#[]⟩, .int .i64 0], .bool false]
  | some x => .tuple #[.agg #[.string x.name, .int .i64 x.pos], .bool true]
def optPlc : Option PV → Value
  | none => .tuple #[.agg #[.string ⟨#[]⟩, .int .i64 0, .int .i64 0, .string ⟨#[]⟩, .slice none 0 0, .slice none 0 0, .slice none 0 0, .int .i64 0], .bool false]
  | some x => .tuple #[x.val, .bool true]

end Go.Proofs.Ytaklbnabgcglhab
