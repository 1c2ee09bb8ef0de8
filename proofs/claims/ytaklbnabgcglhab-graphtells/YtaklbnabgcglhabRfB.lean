/- The contracts of the document's Direct and textLess. -/
import Derived.Test.YtaklbnabgcglhabResM
import Derived.Test.YtaklbnabgcglhabOrdM
import Derived.Deep.QuietTactic
import Derived.BigQuiet
namespace Go.Proofs.Ytaklbnabgcglhab
open Go.RowKit Go.PlainAid

set_option maxRecDepth 100000

set_option maxHeartbeats 2000000 in
theorem direct_any (l : List PV) (v : Value) (i k : Nat) (x y : PV) (hx : l[i]? = some x) (hy : l[k]? = some y) (w : World) (hrow : IsPlcs w.heap.size w v l) :
    Calls Try.prog 97 #[v, .int .i64 i, .int .i64 k] w fun e w' => e = .returned (.bool (asksM x.mod y.mod.name)) ∧ Below w.heap.size w w' := by
  have hat := (hrow.2 x (List.mem_of_getElem? hx)).2.1
  obtain ⟨⟨a, cap, rfl, hz, hrow⟩, _⟩ := hrow
  have hil : i < l.length := (List.getElem?_eq_some_iff.1 hx).1
  have hkl : k < l.length := (List.getElem?_eq_some_iff.1 hy).1
  rcases hrow with h | ⟨b, off, rfl, hbn, hcells⟩
  · subst h; simp at hil
  have c5 := hcells i x hx 5 (by omega)
  have d0 := hcells k y hy 0 (by omega)
  dsimp only [PV.cell] at c5 d0
  rw [Nat.add_zero] at d0
  obtain ⟨pi, ki, e5, hzi, hri⟩ := hat
  rw [e5] at c5
  have HC0 : Hid (asksM x.mod y.mod.name = (x.mod.imps.drop 0).any fun i => i.mod == y.mod.name) := (rfl : _ = _)
  clear hcells hx hy e5
  generalize asksM x.mod y.mod.name = R at *
  generalize y.mod.name = yn at *
  generalize x.mod.imps = is at *
  have hil' : (i : Int) < (l.length : Int) := by omega
  have hkl' : (k : Int) < (l.length : Int) := by omega
  go_enter Try.func97, Try.ntmps97
  go_wp2_with fail
  go_loopw [7] (fun q wr => ∃ (n : Nat), n ≤ is.length ∧ q = .int .i64 n ∧ Hid (R = (is.drop n).any fun i => i.mod == yn) ∧ Below w.heap.size w wr) (fun q _ => is.length - (intOf q).toNat)
  case atStart => exact ⟨0, Nat.zero_le _, rfl, HC0.out, Below.refl _ _⟩
  case round =>
    obtain ⟨n, hn, rfl, HC, B⟩ := hrel
    clear HC0
    have c5' := (B.cell (p := ⟨b, off + i * 8 + 5, none⟩) hbn).trans c5
    have d0' := (B.cell (p := ⟨b, off + k * 8, none⟩) hbn).trans d0
    have hbw : b < wr.heap.size := Nat.lt_of_lt_of_le hbn B.size
    by_cases hlt : n < is.length
    · obtain ⟨z, hz2⟩ : ∃ z, is[n]? = some z := ⟨_, List.getElem?_eq_getElem hlt⟩
      rcases hri with h | ⟨bi, offi, rfl, hbi, hci⟩
      · subst h; simp at hlt
      have e0 := (B.cell (p := ⟨bi, offi + n * 4 + 0, none⟩) hbi).trans (hci n z hz2 0 (by omega))
      dsimp only [Imp.cell] at e0
      rw [Nat.add_zero] at e0
      have HR : Hid (R = ((z.mod.toList == yn.toList) || (is.drop (n + 1)).any fun i => i.mod == yn)) := by
        show R = _
        rw [HC.out, drop_at hz2, List.any_cons, ← toList_beq2]
      have hbi2 : bi < wr.heap.size := Nat.lt_of_lt_of_le hbi B.size
      have hlt' : (n : Int) < (is.length : Int) := by omega
      clear hci HC hz2
      generalize z.mod = zm at *
      cases ht : (zm.toList == yn.toList)
      · rw [ht] at HR
        have HR2 : Hid (R = (is.drop (n + 1)).any fun i => i.mod == yn) := by
          show R = _
          rw [HR.out, Bool.false_or]
        clear HR
        go_wp2_with fail
        go_quiet (fail)
        have BQ := below_drewN B
        go_wp2
        exact ⟨⟨n + 1, by omega, by go_num, HR2.out, BQ _⟩, by simp [intOf]; omega⟩
      · rw [ht] at HR
        have HR2 : Hid (R = true) := by
          show R = _
          rw [HR.out, Bool.true_or]
        clear HR
        go_wp2_with fail
        go_quiet (fail)
        have BQ := below_drewN B
        go_wp2
        go_ret
        exact ⟨by rw [HR2.out]; rfl, BQ _⟩
    · obtain rfl : n = is.length := by omega
      have HZ : Hid (R = false) := by
        show R = false
        rw [HC.out, List.drop_length]; rfl
      go_wp2
      go_ret
      exact ⟨by rw [HZ.out]; rfl, B⟩

theorem lt_drop (a b : List UInt8) (k : Nat) (x y : UInt8) (hx : a[k]? = some x) (hy : b[k]? = some y) (h : x ≠ y) : a.drop k < b.drop k ↔ x < y := by
  rw [drop_at hx, drop_at hy, List.cons_lt_cons_iff]
  constructor
  · rintro (h1 | ⟨h1, _⟩)
    · exact h1
    · exact absurd h1 h
  · exact fun h1 => .inl h1
theorem lt_drop_eq (a b : List UInt8) (k : Nat) (x : UInt8) (hx : a[k]? = some x) (hy : b[k]? = some x) : a.drop k < b.drop k ↔ a.drop (k + 1) < b.drop (k + 1) := by
  rw [drop_at hx, drop_at hy, List.cons_lt_cons_iff]
  constructor
  · rintro (h1 | ⟨_, h1⟩)
    · exact absurd h1 (UInt8.lt_irrefl x)
    · exact h1
  · exact fun h1 => .inr ⟨rfl, h1⟩
theorem lt_drop_end (a b : List UInt8) (k : Nat) (h : a.length ≤ k ∨ b.length ≤ k) (ha : k ≤ a.length) (hb : k ≤ b.length) : a.drop k < b.drop k ↔ a.length < b.length := by
  by_cases h1 : a.length ≤ k
  · rw [List.drop_of_length_le h1]
    by_cases h2 : b.length ≤ k
    · rw [List.drop_of_length_le h2]
      constructor
      · intro h3; exact absurd h3 (List.lt_irrefl _)
      · intro h3; omega
    · have hk : k < b.length := by omega
      rw [drop_at (List.getElem?_eq_getElem hk)]
      constructor
      · intro _; omega
      · intro _; exact List.nil_lt_cons _ _
  · have hk : k < a.length := by omega
    have h2 : b.length ≤ k := by omega
    rw [List.drop_of_length_le h2, drop_at (List.getElem?_eq_getElem hk)]
    constructor
    · intro h3; exact absurd h3 (List.not_lt_nil _)
    · intro h3; omega

end Go.Proofs.Ytaklbnabgcglhab
