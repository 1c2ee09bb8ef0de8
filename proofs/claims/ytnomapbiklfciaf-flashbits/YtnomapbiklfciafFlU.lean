/- The contract of the document's NewFlash. -/
import Derived.Test.YtnomapbiklfciafFlT
import Derived.Test.YtnomapbiklfciafFlK
namespace Go.Proofs.Ytnomapbiklfciaf
open Go.RowKit Go.PlainAid Go.Lib

set_option maxRecDepth 100000

def ffB (n : Nat) : ByteArray := ⟨(List.replicate n 255).toArray⟩
theorem ffB_next (n : Nat) : ffB n ++ ⟨#[255]⟩ = ffB (n + 1) := by
  unfold ffB
  apply ByteArray.ext
  apply Array.toList_inj.1
  rw [ByteArray.data_append, List.replicate_succ']
  simp
theorem ffB_size (n : Nat) : (ffB n).size = n := by simp [ffB, ByteArray.size]

set_option maxHeartbeats 4000000 in
theorem rNew_any (n : Nat) (hn : n ≤ 32) (w : World) :
    Calls Try.prog 15 #[.int .i64 n] w fun e w' => (∃ r, e = .returned (.agg #[r]) ∧ w'.ownsRow w.heap.size 9 1 r n ((List.replicate n (ffB 128)).flatMap strC)) ∧ Below w.heap.size w w' := by
  obtain ⟨is, his, hs0, hs1, hs2⟩ := infoStrF_parts
  have HF : Hid (∀ k, ffB k ++ ⟨#[255]⟩ = ffB (k + 1)) := ffB_next
  have HZ : Hid (∀ k, (ffB k).size = k) := ffB_size
  have HB1 : Hid (Below w.heap.size w (w.alloc (.cells #[.slice none 0 0] 24))) := (Below.refl _ _).alloc (Nat.le_refl _) _
  have HR1 : Hid (CellsAt (w.alloc (.cells #[.slice none 0 0] 24)) w.heap.size 24 #[.slice none 0 0]) := CellsAt.new _ _ _
  go_enter Try.func15, Try.ntmps15
  go_wp2
  go_loop [3, 4] (fun s i => ∃ (j : Nat) (t : ByteArray), j ≤ 128 ∧ i = .int .i64 j ∧ s = .string t ∧ Hid (t = ffB j)) (fun _ i => 128 - (intOf i).toNat)
  case atStart => exact ⟨0, ⟨#[]⟩, by omega, rfl, rfl, (rfl : (⟨#[]⟩ : ByteArray) = ffB 0)⟩
  case round =>
    obtain ⟨j, t, hj, rfl, rfl, HT⟩ := hrel
    by_cases hlt : j < 128
    · have hsz : t.size = j := by rw [HT.out, HZ.out]
      have hbig : ¬ (9223372036854775807 < t.size + 1) := by omega
      have HN : Hid (t ++ ⟨#[255]⟩ = ffB (j + 1)) := by show t ++ _ = _; rw [HT.out, HF.out]
      go_wp2
      exact ⟨⟨j + 1, t ++ ⟨#[255]⟩, by omega, by go_num, rfl, HN⟩, by simp [intOf]; omega⟩
    · obtain rfl : j = 128 := by omega
      have HR2 : Hid (CellsAt ((w.alloc (.cells #[.slice none 0 0] 24)).alloc (.cells #[.slice none 0 0] 24)) w.heap.size 24 #[.slice none 0 0]) := HR1.out.kept (World.grownBy_alloc _ _ none) (by simp)
      have HV2 : Hid (CellsAt ((w.alloc (.cells #[.slice none 0 0] 24)).alloc (.cells #[.slice none 0 0] 24)) (w.heap.size + 1) 24 #[.slice none 0 0]) := by
        have := CellsAt.new (w.alloc (.cells #[.slice none 0 0] 24)) 24 #[.slice none 0 0]
        rw [World.size_alloc] at this
        exact this
      have HB2 : Hid (Below w.heap.size w ((w.alloc (.cells #[.slice none 0 0] 24)).alloc (.cells #[.slice none 0 0] 24))) := HB1.out.alloc (by simp) _
      have HTF : Hid (t = ffB 128) := HT
      have HS2 : Hid (w.heap.size + 2 ≤ ((w.alloc (.cells #[.slice none 0 0] 24)).alloc (.cells #[.slice none 0 0] 24)).heap.size) := by
        show _ ≤ _
        simp
      clear HR1 HB1 HF HZ HT
      go_wp2
      go_loopw [6] (fun i wr => ∃ (k : Nat) (v : Value), k ≤ n ∧ i = .int .i64 k ∧ Hid (CellsAt wr w.heap.size 24 #[.slice none 0 0]) ∧ Hid (CellsAt wr (w.heap.size + 1) 24 #[v]) ∧ Hid (wr.ownsRow (w.heap.size + 2) 9 1 v k ((List.replicate k t).flatMap strC)) ∧ Hid (Below w.heap.size w wr) ∧ Hid (w.heap.size + 2 ≤ wr.heap.size)) (fun i _ => n - (intOf i).toNat)
      case atStart => exact ⟨0, .slice none 0 0, Nat.zero_le _, rfl, HR2, HV2, World.ownsRow_nil _ _ _ _, HB2, HS2⟩
      case round =>
        obtain ⟨k, v, hk, rfl, HR, HV, HO, HB, HS⟩ := hrel
        clear HR2 HV2 HB2 HS2
        obtain ⟨av, kv, rfl⟩ := own_form HO.out
        have v0 := HV.out.cell 0
        have vf := HV.out.frozen 0
        simp at v0
        have hlt1 : w.heap.size + 1 < wr.heap.size := HV.out.lt
        by_cases hltk : k < n
        · have HA1 : Hid (CellsAt (wr.alloc (.cells #[.string t] 9)) wr.heap.size 9 #[.string t]) := CellsAt.new _ _ _
          have HAR : Hid (CellsAt (wr.alloc (.cells #[.string t] 9)) w.heap.size 24 #[.slice none 0 0]) := HR.out.kept (World.grownBy_alloc _ _ none) (by simp)
          have HAV : Hid (CellsAt (wr.alloc (.cells #[.string t] 9)) (w.heap.size + 1) 24 #[.slice av k kv]) := HV.out.kept (World.grownBy_alloc _ _ none) (by simp)
          have HAB : Hid (Below w.heap.size w (wr.alloc (.cells #[.string t] 9))) := HB.out.alloc HB.out.size _
          have HRP : Hid ((List.replicate k t).flatMap strC ++ [.string t] = (List.replicate (k + 1) t).flatMap strC) := by
            show _ = _
            rw [List.replicate_succ', List.flatMap_append]; rfl
          clear HR HV HB
          go_wp2_with (at_builtin; refine wpList_append_lies _ rfl _ _ _ rfl (w.heap.size + 2) 9 is _ 1 16 Try.underlying22 his hs0 hs1 hs2 rfl (by omega) (.slice av k kv) k ((List.replicate k t).flatMap strC) rfl (HO.out.alloc _) ⟨wr.heap.size, 0, none⟩ 1 1 [.string t] rfl rfl (World.news_of_block (cs := #[.string t]) (t := 9) (fr := (0, 0)) HA1.out) (by simp [Value.oneCell']) (by omega) (by unfold maxLen; omega) (by omega) (by have := HS.out; simp; omega) (wr.heap.size + 1) (by simp) ?_; intro g gc w8 hown8 hgrow hat hltg; have z8 := HAV.out.kept hgrow (fun e => by have := own_block HO.out _ e.symm; omega); have z0 := z8.cell 0; have zf := z8.frozen 0; simp at z0)
          have hO8 := hown8.kept (grown_set w8 (w.heap.size + 1) 0 (.slice (some ⟨g, 0, none⟩) (k + 1) gc)) (.inr (fun e => by have := own_block hown8 _ e; omega))
          rw [HRP.out] at hO8
          have hV8 := z8.set 0 (.slice (some ⟨g, 0, none⟩) (k + 1) gc)
          simp only [List.setIfInBounds_toArray, List.set_cons_zero] at hV8
          have hR8 := (HAR.out.kept hgrow (fun e => by have := own_block HO.out _ e.symm; omega)).kept (grown_set w8 (w.heap.size + 1) 0 (.slice (some ⟨g, 0, none⟩) (k + 1) gc)) (by simp)
          have hB8 := (HAB.out.grown hgrow HAB.out.size (fun q hq => by have := own_block HO.out q hq; omega)).setCell (p := ⟨w.heap.size + 1, 0, none⟩) (by simp) (.slice (some ⟨g, 0, none⟩) (k + 1) gc)
          have hS8 : w.heap.size + 2 ≤ (w8.setCell ⟨w.heap.size + 1, 0, none⟩ (.slice (some ⟨g, 0, none⟩) (k + 1) gc)).heap.size := by
            have h1 := hgrow.size
            have h2 := HS.out
            simp [World.setCell] at h1 ⊢
            omega
          exact ⟨⟨k + 1, _, by omega, by go_num, hR8, hV8, hO8, hB8, hS8⟩, by simp [intOf]; omega⟩
        · obtain rfl : k = n := by omega
          have r0 := HR.out.cell 0
          have rf := HR.out.frozen 0
          simp at r0
          go_wp2
          have hF := HR.out.set 0 (.slice av k kv)
          simp only [List.setIfInBounds_toArray, List.set_cons_zero] at hF
          refine bodyPost_ret (results_cell_row rfl _ _ _ _ _ _ _ rfl hF Try.underlying24 rfl (by kernel_rfl)) rfl ?_
          have ho := HO.out.kept (grown_set wr w.heap.size 0 (.slice av k kv)) (.inr (fun e => by have := own_block HO.out _ e; omega))
          rw [← HTF.out]
          exact ⟨⟨_, rfl, ho.1, ho.2.imp id (fun ⟨g, cap, cur, h1, h2, h3⟩ => ⟨g, cap, cur, h1, by omega, h3⟩)⟩, HB.out.setCell (Nat.le_refl _) _⟩

end Go.Proofs.Ytnomapbiklfciaf
