/- What must be in any case, of graphs; rows of texts. -/
import Derived.Test.YtaklbnabgcglhacGrD
import Derived.Test.YtaklbnabgcglhacGrE
import Derived.Test.YtaklbnabgcglhacPairA
namespace Go.Proofs.Ytaklbnabgcglhac
open Go.RowKit Go.PlainAid

set_option maxRecDepth 100000

set_option maxHeartbeats 1000000 in
theorem sameTexts_yes (l : List ByteArray) (v v' : Value) (w : World) (h1 : RowOf 1 strCell w.heap.size w v l) (h2 : RowOf 1 strCell w.heap.size w v' l) :
    Calls Try.prog 14 #[v, v'] w fun e w' => e = .returned (.bool true) ∧ Below w.heap.size w w' := by
  obtain ⟨a, cap, rfl, hz, h1⟩ := h1
  obtain ⟨a', cap', rfl, _, h2⟩ := h2
  have hne : ((l.length : Int) != (l.length : Int)) = false := by simp
  go_enter Try.func14, Try.ntmps14
  go_wp2
  go_loopw [5] (fun i wr => ∃ (k : Nat), k ≤ l.length ∧ i = .int .i64 k ∧ Hid (∃ q, wr = w.drewN q)) (fun i _ => l.length - (intOf i).toNat)
  case atStart => exact ⟨0, Nat.zero_le _, rfl, (⟨0, rfl⟩ : ∃ q, w = w.drewN q)⟩
  case round =>
    obtain ⟨k, hk, rfl, HQ⟩ := hrel
    by_cases hlt : k < l.length
    · obtain ⟨p, hp⟩ : ∃ p, l[k]? = some p := ⟨_, List.getElem?_eq_getElem hlt⟩
      rcases h1 with h | ⟨b, off, rfl, hbn, hc⟩
      · subst h; simp at hlt
      rcases h2 with h | ⟨b', off', rfl, hbn', hc'⟩
      · subst h; simp at hlt
      have hcl : ∀ p, wr.cell? p = w.cell? p := fun p => by obtain ⟨q, hq⟩ := HQ.out; rw [hq]; simp
      have c0 := (hcl _).trans (hc k _ hp 0 (by omega))
      have d0 := (hcl _).trans (hc' k _ hp 0 (by omega))
      dsimp only [strCell] at c0 d0
      rw [Nat.add_zero, Nat.mul_one] at c0 d0
      clear hcl hc hc' hp
      go_wp2
      go_quiet (fail)
      go_wp2
      obtain ⟨q, hq⟩ := HQ.out
      exact ⟨⟨k + 1, by omega, by go_num, (⟨q + _, by rw [hq, World.drewN_drewN]⟩ : ∃ q, _ = w.drewN q)⟩, by simp [intOf]; omega⟩
    · go_wp2
      go_ret
      obtain ⟨q, hq⟩ := HQ.out
      exact ⟨rfl, by rw [hq]; exact below_drewN (Below.refl _ _) q⟩

def appN : ByteArray := ⟨#[97, 112, 112]⟩
def libN : ByteArray := ⟨#[108, 105, 98]⟩
theorem chk_pairG : chkGraph pairL = 0 := by kernel_rfl
theorem err_app : comeErr pairL appN = 0 := by kernel_rfl
theorem err_lib : comeErr pairL libN = 0 := by kernel_rfl
theorem next_need {i k : Nat} : Next nxNeed [appM, libM] i k ↔ i = 0 ∧ k = 1 := by
  have e00 : nxNeed appM appM = false := by kernel_rfl
  have e01 : nxNeed appM libM = true := by kernel_rfl
  have e1 : ∀ m, nxNeed libM m = false := fun m => by rfl
  constructor
  · rintro ⟨x, y, hx, hy, h⟩
    have hi : i = 0 ∨ i = 1 := by have := (List.getElem?_eq_some_iff.1 hx).1; simp at this; omega
    have hk : k = 0 ∨ k = 1 := by have := (List.getElem?_eq_some_iff.1 hy).1; simp at this; omega
    rcases hi with rfl | rfl
    · rcases hk with rfl | rfl
      · injection hx with hx
        injection hy with hy
        subst hx hy
        rw [e00] at h
        cases h
      · exact ⟨rfl, rfl⟩
    · injection hx with hx
      subst hx
      rw [e1] at h
      cases h
  · rintro ⟨rfl, rfl⟩
    exact ⟨appM, libM, rfl, rfl, e01⟩
theorem via_need {i k : Nat} : Via (Next nxNeed [appM, libM]) i k ↔ i = 0 ∧ k = 1 := by
  constructor
  · intro h
    induction h with
    | one e => exact next_need.1 e
    | more _ e ih => have := next_need.1 e; omega
  · exact fun h => .one (next_need.2 h)
theorem name_pair {f : Nat} (hf : f < 2) : nameAt [appM, libM] f = if f = 0 then appN else libN := by
  have : f = 0 ∨ f = 1 := by omega
  rcases this with rfl | rfl <;> rfl
theorem app_lib : appN ≠ libN := by
  intro h
  have := congrArg ByteArray.size h
  have h2 := congrArg (fun b : ByteArray => b.data.toList) h
  exact absurd h2 (by decide)
theorem come_app {ss : List ByteArray} (h : ComeRes nxNeed pairL appN ss) : ss = [libN] := by
  rcases h with ⟨h, _⟩ | ⟨_, f, hf, hn, hr, hm⟩
  · exact absurd err_app h
  have hf2 : f < 2 := hf
  rw [show pairL.map (·.mod) = [appM, libM] from rfl] at hn hm
  rw [name_pair hf2] at hn
  have h0 : f = 0 := by
    by_cases e : f = 0
    · exact e
    · rw [if_neg e] at hn; exact absurd hn.symm app_lib
  subst h0
  refine Rising.same hr (by simp [Rising]) (fun x => ?_)
  rw [hm]
  constructor
  · rintro ⟨k, hk, rfl⟩
    obtain ⟨_, rfl⟩ := via_need.1 hk
    simp [name_pair]
  · intro hx
    obtain rfl : x = libN := by simpa using hx
    exact ⟨1, via_need.2 ⟨rfl, rfl⟩, rfl⟩
theorem come_lib {ss : List ByteArray} (h : ComeRes nxUse pairL libN ss) : ss = [appN] := by
  rcases h with ⟨h, _⟩ | ⟨_, f, hf, hn, hr, hm⟩
  · exact absurd err_lib h
  have hf2 : f < 2 := hf
  rw [show pairL.map (·.mod) = [appM, libM] from rfl] at hn hm
  rw [name_pair hf2] at hn
  have h0 : f = 1 := by
    by_cases e : f = 0
    · rw [if_pos e] at hn; exact absurd hn app_lib
    · omega
  subst h0
  refine Rising.same hr (by simp [Rising]) (fun x => ?_)
  rw [hm]
  constructor
  · rintro ⟨k, hk, rfl⟩
    obtain ⟨rfl, _⟩ := via_need.1 (via_turn.1 hk)
    simp [name_pair]
  · intro hx
    obtain rfl : x = appN := by simpa using hx
    exact ⟨0, via_turn.2 (via_need.2 ⟨rfl, rfl⟩), rfl⟩
theorem ord_pair : ordOf pairL = ([libN, appN], 0) := by
  unfold ordOf
  rw [if_neg (by rw [chk_pairG]; exact fun h => h rfl)]
  have hr : risen pairL = [appM, libM] := by
    unfold risen
    refine List.mergeSort_of_pairwise ?_
    show List.Pairwise _ [appM, libM]
    rw [List.pairwise_cons]
    refine ⟨fun x hx => ?_, by simp⟩
    obtain rfl : x = libM := by simpa using hx
    show decide (appM.name.data.toList ≤ libM.name.data.toList) = true
    decide
  rw [hr]
  exact ordRes_some (by kernel_rfl)

end Go.Proofs.Ytaklbnabgcglhac
