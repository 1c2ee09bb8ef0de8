/- Who needs whom, as data. -/
import Derived.Test.YtaklbnabgcglhabRegM
import Derived.Test.YtaklbnabgcglhabModB
import Derived.Test.YtaklbnabgcglhabRiseM
namespace Go.Proofs.Ytaklbnabgcglhab
open Go.RowKit Go.PlainAid

/-- Have two one name? -/
def twiceFrom : List ByteArray → List Plc → Bool
  | _, [] => false
  | met, p :: l => (met.any fun y => y == p.mod.name) || twiceFrom (met ++ [p.mod.name]) l
def plainErr (L : List Plc) : Int := if 8 < L.length then 2 else chkBy (fun _ => 0) L
def chkGraph (L : List Plc) : Int := if plainErr L ≠ 0 then plainErr L else if twiceFrom [] L = true then 6 else 0
theorem twice_nodup : ∀ (L : List Plc) (met : List ByteArray), met.Nodup → (twiceFrom met L = false ↔ (met ++ L.map (·.mod.name)).Nodup)
  | [], met, h => by simp [twiceFrom, h]
  | p :: l, met, h => by
    have hs : twiceFrom met (p :: l) = ((met.any fun y => y == p.mod.name) || twiceFrom (met ++ [p.mod.name]) l) := rfl
    rw [hs]
    by_cases hm : p.mod.name ∈ met
    · rw [any_mem.2 hm, Bool.true_or]
      constructor
      · intro h; cases h
      · intro hn
        rw [List.nodup_append] at hn
        exact absurd rfl (hn.2.2 _ hm _ (by simp))
    · have h0 : (met.any fun y => y == p.mod.name) = false := by
        cases he : met.any fun y => y == p.mod.name
        · rfl
        · exact absurd (any_mem.1 he) hm
      rw [h0, Bool.false_or, twice_nodup l (met ++ [p.mod.name]) (by
        rw [List.nodup_append]
        exact ⟨h, by simp, fun a ha b hb => by rw [List.mem_singleton.1 hb]; exact fun e => hm (e ▸ ha)⟩)]
      simp
theorem chkGraph_zero {L : List Plc} : chkGraph L = 0 ↔ L.length ≤ 8 ∧ (∀ p ∈ L, chkMod p.mod = 0) ∧ (L.map (·.mod.name)).Nodup := by
  have ht := twice_nodup L [] (by simp)
  rw [List.nil_append] at ht
  unfold chkGraph
  constructor
  · intro h
    split at h
    · exact absurd h ‹_›
    rename_i h1
    have h1 : plainErr L = 0 := by omega
    unfold plainErr at h1
    split at h1
    · omega
    rename_i h8
    split at h
    · omega
    rename_i h2
    exact ⟨by omega, fun p hp => (chkBy_zero.1 h1 p hp).1, ht.1 (by simpa using h2)⟩
  · rintro ⟨h1, h2, h3⟩
    have h4 : plainErr L = 0 := by
      unfold plainErr
      rw [if_neg (by omega)]
      exact chkBy_zero.2 fun p hp => ⟨h2 p hp, rfl⟩
    rw [h4, ht.2 h3]
    simp

end Go.Proofs.Ytaklbnabgcglhab
