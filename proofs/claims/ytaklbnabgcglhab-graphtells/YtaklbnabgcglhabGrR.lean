/- The contract of graph.rising. -/
import Derived.Test.YtaklbnabgcglhabGrS
namespace Go.Proofs.Ytaklbnabgcglhab
open Go.RowKit Go.PlainAid

set_option maxRecDepth 100000

set_option maxHeartbeats 2000000 in
theorem insNone_any (p : Option Addr) (cap : Nat) (fv : Value) (w : World) :
    Calls Try.prog 119 #[.slice p 0 cap, .int .i64 0, .int .i64 0, fv] w fun e w' => e = .returned (.tuple #[]) ∧ w' = w := by
  go_enter Try.func119, Try.ntmps119
  go_wp2
  refine wp_loop_rounds 1 ?_
  rw [rounds_succ]
  go_wp2
  go_end0
  exact ⟨rfl, rfl⟩
set_option maxHeartbeats 2000000 in
theorem pdqNone_any (p : Option Addr) (cap : Nat) (lim : Int) (fv : Value) (w : World) :
    Calls Try.prog 114 #[.slice p 0 cap, .int .i64 0, .int .i64 0, .int .i64 lim, fv] w fun e w' => e = .returned (.tuple #[]) ∧ w' = w := by
  have hi := fun W => insNone_any p cap fv W
  go_enter Try.func114, Try.ntmps114
  go_wp2
  refine wp_loop_rounds 1 ?_
  rw [rounds_succ]
  go_wp2_with (go_at_call 119; refine (hi _).mono ?_; rintro e w' ⟨rfl, rfl⟩)
  (try simp only [Exit.inBlock, Exit.then]); refine bodyPost_ret (results_none rfl _ _ _) rfl ?_
  exact ⟨rfl, rfl⟩
set_option maxHeartbeats 2000000 in
theorem sortNone_any (p : Option Addr) (cap : Nat) (fv : Value) (w : World) :
    Calls Try.prog 94 #[.slice p 0 cap, fv] w fun e w' => e = .returned (.tuple #[]) ∧ w' = w := by
  have hi := fun lim W => pdqNone_any p cap lim fv W
  have hl := fun W => bitsLen_any 0 W (by omega)
  go_enter Try.func94, Try.ntmps94
  go_wp2_with (first | (go_at_call 115; refine (hl _).mono ?_; rintro e w' ⟨⟨q, rfl⟩, rfl⟩) | (go_at_call 114; refine (hi _ _).mono ?_; rintro e w' ⟨rfl, rfl⟩))
  go_end0
  exact ⟨rfl, rfl⟩

def pvZero : PV := ⟨⟨⟨#[]⟩, 0, 0, ⟨#[]⟩, [], [], []⟩, .slice none 0 0, .slice none 0 0, .slice none 0 0, 0⟩
def UpName (a b : PV) : Prop := ¬ b.mod.name.data.toList < a.mod.name.data.toList

theorem sortMods_any (l : List PV) (g cap : Nat) (w : World) (h8 : l.length ≤ 8) (hg : g < w.heap.size)
    (hc : ∀ (j : Nat) (x : PV), l[j]? = some x → ∀ i, i < 7 → w.cell? ⟨g, 0 + j * 7 + i, none⟩ = (modE x)[i]? ∧ w.frozen? ⟨g, 0 + j * 7 + i, none⟩ = false) :
    Calls Try.prog 94 #[.slice (some ⟨g, 0, none⟩) l.length cap, .func (.func 95) #[] #[]] w fun e w' => e = .returned (.tuple #[]) ∧ ∃ rs : List PV, rs.Perm l ∧ rs.Pairwise UpName ∧ Below g w w' ∧ ∀ (j : Nat) (x : PV), rs[j]? = some x → ∀ i, i < 7 → w'.cell? ⟨g, 0 + j * 7 + i, none⟩ = (modE x)[i]? := by
  have inh : Inhabited PV := ⟨pvZero⟩
  have hl7 : ∀ x : PV, (modE x).length = 7 := fun _ => rfl
  have at_ : ∀ (x : PV) (i : Nat), i < 7 → (modE x)[i]? = some (modE x)[i]! := fun x i hi => by
    rw [List.getElem?_eq_getElem (by rw [hl7]; exact hi), List.getElem!_eq_getElem?_getD, List.getElem?_eq_getElem (by rw [hl7]; exact hi)]
    rfl
  have arr : ∀ (a : Array PV) (j : Nat), j < a.size → a.toList[j]? = some a[j]! := fun a j hj => by
    rw [getElem!_pos a j hj, List.getElem?_eq_getElem (by simpa using hj)]
    simp
  have hH : Go.Sort.HoldsK modE 7 w g 0 l.toArray := by
    intro t ht
    rw [Go.Sort.size_flatK] at ht
    rw [Go.Sort.get_flatK _ _ _ _ ht]
    have hs : l.toArray.size = l.length := by simp
    have hq : t / 7 < l.length := by rw [hs] at ht; omega
    have hx := arr l.toArray (t / 7) (by rw [hs]; exact hq)
    rw [List.toList_toArray] at hx
    have h1 := hc (t / 7) _ hx (t % 7) (by omega)
    rw [show 0 + t / 7 * 7 + t % 7 = 0 + t by omega, at_ _ _ (by omega)] at h1
    exact h1
  have hcon := AnyQ.slices_SortFunc_small_sorted sortFL 7 Try.isAgg44 Try.sizeOf44 modE hl7 modE_one (fun x y => Lib.compareBytes x.mod.name.data.toList y.mod.name.data.toList) 95 #[] cmp_swo g 0 cap l.toArray w (enters_of Try.func95 (by kernel_rfl) rfl) (fun _ _ _ _ x y => rising1_any x y _) hH hg (by simp; omega) (fun n W hn => bitsLen_any n W hn)
  refine Calls.mono hcon ?_
  rintro e w' ⟨rfl, d', n, os, hp, hs, rfl⟩
  have hsz : d'.size = l.length := by rw [hp.1]; simp
  have hperm : d'.toList.Perm l := by
    have h1 := hp.2.2
    have e1 : l.toArray.size = d'.size := by rw [hsz]; simp
    rw [Array.extract_size, e1, Array.extract_size, List.toList_toArray] at h1
    exact h1
  refine ⟨rfl, d'.toList, hperm, ?_, below_sortWorld _ _ _ _ _ _ _ _ hg, ?_⟩
  · rw [List.pairwise_iff_getElem]
    intro i j hi hj hij
    have h1 := hs i j (Nat.zero_le _) hij (by simp at hj ⊢; omega)
    have hi' : i < d'.size := by simpa using hi
    have hj' : j < d'.size := by simpa using hj
    rw [getElem!_pos d' i hi', getElem!_pos d' j hj'] at h1
    unfold ltOf at h1
    rw [decide_eq_false_iff_not, cmpB_neg] at h1
    simp only [UpName, Array.getElem_toList]
    exact h1
  · intro j x hx i hi
    have hj : j < d'.size := by
      have := (List.getElem?_eq_some_iff.1 hx).1
      simpa using this
    have hx2 := arr d' j hj
    rw [hx] at hx2
    injection hx2 with hx2
    subst hx2
    rw [at_ _ _ hi]
    exact (Go.Sort.HoldsK.cell (holdsK_sortWorldK_c modE 7 w g 0 l.toArray d' n os hH hg (by rw [hsz]; simp)) hj hi).1

theorem infoMod : (Try.prog.info? 44).map (fun i => (i.zero, i.size, i.bytes)) = some (some (.agg #[.string ⟨#[]⟩, .int .i64 0, .int .i64 0, .string ⟨#[]⟩, .slice none 0 0, .slice none 0 0, .slice none 0 0]), 7, 120) := by kernel_rfl
theorem infoMod_parts : ∃ i, Try.prog.info? 44 = some i ∧ i.zero = some (.agg #[.string ⟨#[]⟩, .int .i64 0, .int .i64 0, .string ⟨#[]⟩, .slice none 0 0, .slice none 0 0, .slice none 0 0]) ∧ i.size = 7 ∧ i.bytes = 120 := by
  have h := infoMod
  cases hi : Try.prog.info? 44 with
  | none => rw [hi] at h; cases h
  | some i =>
    rw [hi] at h
    simp at h
    exact ⟨i, rfl, h.1, h.2.1, h.2.2⟩

end Go.Proofs.Ytaklbnabgcglhab
