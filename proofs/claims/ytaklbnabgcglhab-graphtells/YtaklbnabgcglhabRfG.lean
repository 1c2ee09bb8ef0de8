/- The contracts of the document's IsRound and NeedsOf. -/
import Derived.Test.YtaklbnabgcglhabRfD
import Derived.Test.YtaklbnabgcglhabRfF
import Derived.Test.YtaklbnabgcglhabRrA
import Derived.Test.YtaklbnabgcglhabGrT
import Derived.Test.YtaklbnabgcglhabGrO
namespace Go.Proofs.Ytaklbnabgcglhab
open Go.RowKit Go.PlainAid

set_option maxRecDepth 100000

set_option maxHeartbeats 2000000 in
theorem isRound_any (l : List PV) (v : Value) (w : World) (hrow : IsPlcs w.heap.size w v l) (h8 : l.length ≤ 8) (rb : Bool) (hrb : rb = true ↔ ∃ i, Via (Next nxNeed (l.map (·.mod))) i i) :
    Calls Try.prog 32 #[v] w fun e w' => e = .returned (.bool rb) ∧ Below w.heap.size w w' := by
  have HR : Hid (Calls Try.prog 66 #[v] w fun e w' => (∃ r T, e = .returned r ∧ MatAt w' w.heap.size l.length r T ∧ ∀ a b, a < l.length → b < l.length → (T a b = true ↔ Via (Next nxNeed (l.map (·.mod))) a b)) ∧ Below w.heap.size w w') := reach_any l v w hrow h8
  have HLT : Hid (∀ i, Via (Next nxNeed (l.map (·.mod))) i i → i < l.length) := fun i h => by simpa using h.lt_of.1
  obtain ⟨⟨a, cap, rfl, hmax, _⟩, _⟩ := hrow
  generalize Via (Next nxNeed (l.map (·.mod))) = V at *
  generalize l.length = n at *
  have HRB : Hid (rb = true ↔ ∃ i, V i i) := hrb
  clear hrb
  go_enter Try.func32, Try.ntmps32
  go_wp2_with fail
  refine HR.out.mono ?_
  rintro e w2 ⟨⟨r, T, rfl, hM, hT⟩, B2⟩
  clear HR
  have HT : Hid (∀ a b, a < n → b < n → (T a b = true ↔ V a b)) := hT
  have HM : Hid (MatAt w2 w.heap.size n r T) := hM
  obtain ⟨ar, cr, rfl⟩ : ∃ ar cr, r = .slice ar n cr := by
    obtain ⟨vs, _, h2, _⟩ := hM
    exact own_form h2
  clear hT hM
  go_wp2_with fail
  go_loopw [4] (fun q wr => ∃ (k : Nat), k ≤ n ∧ q = .int .i64 k ∧ Hid (∀ j, j < k → T j j = false) ∧ Below w2.heap.size w2 wr) (fun q _ => n - (intOf q).toNat)
  case atStart => exact ⟨0, Nat.zero_le _, rfl, fun j hj => by omega, Below.refl _ _⟩
  case round =>
    obtain ⟨k, hk, rfl, HJ, B⟩ := hrel
    by_cases hlt : k < n
    · obtain ⟨go, co, hv, hbg, hgl, gs, cs, hall⟩ := (HM.out.below B).at (by omega)
      injection hv with e1 _ e3
      subst e1 e3
      obtain ⟨rk, _, lk, rk4⟩ := hall k hlt
      have ckk := (rk4 k hlt).1
      have hlt' : (k : Int) < (n : Int) := by omega
      have HJ2 : Hid (T k k = false → ∀ j, j < k + 1 → T j j = false) := fun h j hj => by
        by_cases e : j = k
        · subst e; exact h
        · exact HJ.out j (by omega)
      have HV : Hid (T k k = true → ∃ i, V i i) := fun h => ⟨k, (HT.out k k hlt hlt).1 h⟩
      clear hall rk4 HJ
      generalize gs k = gk at *
      generalize cs k = ck at *
      generalize T k k = t at *
      cases t
      · go_wp2
        exact ⟨⟨k + 1, by omega, by go_num, HJ2.out (by first | rfl | trivial), B⟩, by simp [intOf]; omega⟩
      · go_wp2
        go_ret
        exact ⟨by rw [HRB.out.2 (HV.out (by first | rfl | trivial))]; rfl, B2.trans (B.mono B2.size)⟩
    · obtain rfl : k = n := by omega
      go_wp2
      go_ret
      have hf : rb = false := by
        cases hr : rb
        · rfl
        · obtain ⟨i, hi⟩ := HRB.out.1 hr
          have h1 := HLT.out i hi
          have h2 := HJ.out i h1
          rw [(HT.out i i h1 h1).2 hi] at h2
          cases h2
      exact ⟨by rw [hf]; rfl, B2.trans (B.mono B2.size)⟩

set_option maxHeartbeats 1000000 in
theorem sortTexts_none (p : Option Addr) (cap : Nat) (w : World) : Calls Try.prog 67 #[.slice p 0 cap] w fun e w' => e = .returned (.tuple #[]) ∧ w' = w := by
  go_enter Try.func67, Try.ntmps67
  go_wp2_with fail
  refine wp_loop_rounds 1 ?_
  rw [rounds_succ]
  go_wp2
  go_end0
  exact ⟨rfl, rfl⟩

def nxOf (b : Bool) : Mod → Mod → Bool := if b then nxUse else nxNeed
def tabOf (b : Bool) (T : Nat → Nat → Bool) (f k : Nat) : Bool := if b then T k f else T f k
theorem tab_via {Ms : List Mod} {T : Nat → Nat → Bool} {n : Nat} (h : ∀ a b, a < n → b < n → (T a b = true ↔ Via (Next nxNeed Ms) a b)) {f k : Nat} (hf : f < n) (hk : k < n) (b : Bool) : tabOf b T f k = true ↔ Via (Next (nxOf b) Ms) f k := by
  cases b
  · exact h f k hf hk
  · exact (h k f hk hf).trans via_turn.symm
def pickTo (P : Nat → Bool) (nA : Nat → ByteArray) (k : Nat) : List ByteArray := ((List.range k).filter P).map nA
theorem pickTo_succ (P : Nat → Bool) (nA : Nat → ByteArray) (k : Nat) : pickTo P nA (k + 1) = if P k = true then pickTo P nA k ++ [nA k] else pickTo P nA k := by
  unfold pickTo
  rw [List.range_succ, List.filter_append, List.map_append, List.filter_cons]
  split <;> simp_all
theorem pickTo_len (P : Nat → Bool) (nA : Nat → ByteArray) (k : Nat) : (pickTo P nA k).length ≤ k := by
  unfold pickTo
  rw [List.length_map]
  have := List.length_filter_le P (List.range k)
  simpa using this
theorem rows_sorted {ss rs : List ByteArray} (hp : rs.Perm ss) (hu : rs.Pairwise NotBehind) (hn : ss.Nodup) : Rising rs := by
  have h1 : rs.Nodup := hp.nodup_iff.2 hn
  refine (hu.and h1).imp fun {a b} h => ?_
  rcases Ahead.total a b with h2 | h2 | h2
  · exact h2
  · exact absurd h2 h.2
  · exact absurd h2 h.1
theorem pick_comes {nx : Mod → Mod → Bool} {Ms : List Mod} (hd : (Ms.map (·.name)).Nodup) {f : Nat} {P : Nat → Bool} (hP : ∀ k, k < Ms.length → (P k = true ↔ Via (Next nx Ms) f k)) {rs : List ByteArray} (hp : rs.Perm (pickTo P (nameAt Ms) Ms.length)) (hu : rs.Pairwise NotBehind) : Comes nx Ms f rs := by
  have hn : (pickTo P (nameAt Ms) Ms.length).Nodup := by
    unfold pickTo
    refine List.pairwise_map.2 ((List.Pairwise.filter P (List.nodup_range (n := Ms.length))).imp_of_mem fun {a b} ha hb hne e => hne (nameAt_inj hd ?_ ?_ e))
    · exact List.mem_range.1 (List.mem_filter.1 ha).1
    · exact List.mem_range.1 (List.mem_filter.1 hb).1
  refine ⟨rows_sorted hp hu hn, fun x => ?_⟩
  rw [hp.mem_iff]
  unfold pickTo
  rw [List.mem_map]
  constructor
  · rintro ⟨k, hk, rfl⟩
    obtain ⟨h1, h2⟩ := List.mem_filter.1 hk
    exact ⟨k, (hP k (List.mem_range.1 h1)).1 h2, rfl⟩
  · rintro ⟨k, hk, rfl⟩
    have hl := hk.lt_of.2
    exact ⟨k, List.mem_filter.2 ⟨List.mem_range.2 hl, (hP k hl).2 hk⟩, rfl⟩

end Go.Proofs.Ytaklbnabgcglhab
