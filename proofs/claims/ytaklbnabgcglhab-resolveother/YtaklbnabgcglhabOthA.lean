/- Rows that are appended to: placed modules. -/
import Derived.Test.YtaklbnabgcglhabResI
import Derived.Test.YtaklbnabgcglhabOrd
namespace Go.Proofs.Ytaklbnabgcglhab
open Go.RowKit Go.PlainAid

set_option maxRecDepth 100000

/-- Another module behind all changes nothing of what is found. -/
theorem find_more (k : Ker) (l : List Plc) (x : Plc) (i : Imp) (h : (findRes k l i).2 = 0) : (findRes k (l ++ [x]) i).2 ≠ 0 ∨ (findRes k (l ++ [x]) i).1 = (findRes k l i).1 := by
  by_cases h9 : (findRes k (l ++ [x]) i).2 = 0
  · right
    rcases findRes_cases k l i with ⟨h1, e⟩ | ⟨_, h1, e⟩ | ⟨_, _, e⟩
    · rw [e] at h; exact absurd h h1
    · rw [e] at h; exact absurd h h1
    rcases findRes_cases k (l ++ [x]) i with ⟨h1, e'⟩ | ⟨_, h1, e'⟩ | ⟨_, _, e'⟩
    · rw [e'] at h9; exact absurd h9 h1
    · rw [e'] at h9; exact absurd h9 h1
    rw [e] at h ⊢
    rw [e']
    rcases addrOf_cases k l i with ⟨_, e2⟩ | ⟨t, ht, _⟩
    · rw [e2] at h; exact absurd h (by decide)
    have ht' : tgtOf k (l ++ [x]) i.mod = some t := by
      unfold tgtOf at ht ⊢
      split
      · rename_i hk
        rw [if_pos hk] at ht
        exact ht
      · rename_i hk
        rw [if_neg hk] at ht
        obtain ⟨p, hp, hpt⟩ := Option.map_eq_some_iff.1 ht
        rw [List.find?_append, hp]
        exact congrArg some hpt
    unfold addrOf
    rw [ht, ht']
  · exact .inl h9

end Go.Proofs.Ytaklbnabgcglhab
