/- The contract of the document's CheckExports. -/
import Derived.Test.YtaklbnabgcglhabModE
namespace Go.Proofs.Ytaklbnabgcglhab
open Go.RowKit Go.PlainAid

theorem any_take_succ {α : Type} (l : List α) (p : α → Bool) (j : Nat) (x : α) (h : l[j]? = some x) : (l.take (j + 1)).any p = ((l.take j).any p || p x) := by
  rw [List.take_add_one, h]; simp
theorem any_take_le {α : Type} (l : List α) (p : α → Bool) (j k : Nat) (x : α) (h : l[j]? = some x) (hk : j < k) (hp : p x = true) : (l.take k).any p = true := by
  rw [List.any_eq_true]
  refine ⟨x, ?_, hp⟩
  rw [List.mem_iff_getElem?]
  exact ⟨j, by rw [List.getElem?_take_of_lt hk]; exact h⟩

theorem toList_beq2 (x y : ByteArray) : (x.toList == y.toList) = (x == y) := by
  rw [Bool.eq_iff_iff, ba_beq, beq_iff_eq, ByteArray.toList_eq, ByteArray.toList_eq]
  constructor
  · intro h; exact ByteArray.ext (Array.toList_inj.1 h)
  · rintro rfl; rfl

set_option maxHeartbeats 2000000 in
theorem checkExports_any (l : List Exp) (v : Value) (most : Int) (w : World) (hrow : RowOf 2 Exp.cell w.heap.size w v l) (hfit : ∀ e ∈ l, e.name.size ≤ 9223372036854775807) (hl : l.length ≤ 8) (hm0 : 0 ≤ most) (hm1 : most ≤ 140737488351232) :
    Calls Try.prog 50 #[v, .int .i64 most] w fun e w' => e = .returned (.int .i64 (chkExps most [] l)) ∧ Below w.heap.size w w' := by
  obtain ⟨a, cap, rfl, _, hrow⟩ := hrow
  go_enter Try.func50, Try.ntmps50
  go_wp2
  go_loopw [5] (fun i wr => ∃ (k : Nat), k ≤ l.length ∧ i = .int .i64 k ∧ Hid (chkExps most [] l = chkExps most ((l.take k).map (·.name)) (l.drop k)) ∧ Below w.heap.size w wr) (fun i _ => l.length - (intOf i).toNat)
  case atStart => exact ⟨0, Nat.zero_le _, rfl, by show chkExps most [] l = chkExps most [] (l.drop 0); rfl, Below.refl _ _⟩
  case round =>
    obtain ⟨k, hk, rfl, HC, B⟩ := hrel
    by_cases hlt : k < l.length
    · obtain ⟨p, hp⟩ : ∃ p, l[k]? = some p := ⟨_, List.getElem?_eq_getElem hlt⟩
      rcases hrow with h | ⟨b, off, rfl, hbn, hcells⟩
      · subst h; simp at hlt
      obtain ⟨n, A⟩ := p
      have hn := hfit _ (List.mem_of_getElem? hp)
      dsimp only at hn
      have c0 := (B.cell (p := ⟨b, off + k * 2 + 0, none⟩) hbn).trans (hcells k _ hp 0 (by omega))
      have c1 := (B.cell (p := ⟨b, off + k * 2 + 1, none⟩) hbn).trans (hcells k _ hp 1 (by omega))
      dsimp only [Exp.cell] at c0 c1
      rw [Nat.add_zero] at c0
      have HCELL : Hid (∀ j e, l[j]? = some e → w.cell? ⟨b, off + j * 2, none⟩ = some (.string e.name)) := fun j e hj => hcells j e hj 0 (by omega)
      have htk : (l.take (k + 1)).map (·.name) = (l.take k).map (·.name) ++ [n] := by rw [List.take_add_one, hp]; simp
      have HR : Hid (chkExps most [] l = if expErr most ((l.take k).map (·.name)) ⟨n, A⟩ = 0 then chkExps most ((l.take (k + 1)).map (·.name)) (l.drop (k + 1)) else expErr most ((l.take k).map (·.name)) ⟨n, A⟩) := by
        show chkExps most [] l = _
        rw [HC.out, drop_at hp, htk]; rfl
      clear HC hcells htk
      cases h1 : isNm n
      · have HV : Hid (expErr most ((l.take k).map (·.name)) ⟨n, A⟩ = 1) := by show expErr _ _ _ = 1; simp [expErr, h1]
        go_wp2_with (go_at_call 48; refine (isNameR_any _ _ (by assumption)).mono ?_; rintro e w' ⟨rfl, rfl⟩)
        go_ret
        exact ⟨by rw [HR.out, HV.out]; rfl, B⟩
      · go_wp2_with (go_at_call 48; refine (isNameR_any _ _ (by assumption)).mono ?_; rintro e w' ⟨rfl, rfl⟩)
        go_loopw [6] (fun i wr2 => ∃ (j : Nat), j ≤ k ∧ i = .int .i64 j ∧ Hid (((l.take j).map (·.name)).any (fun x => x == n) = false) ∧ Below w.heap.size w wr2) (fun i _ => k - (intOf i).toNat)
        case atStart => exact ⟨0, Nat.zero_le _, rfl, by show (((l.take 0).map (·.name)).any (fun x => x == n) = false); rfl, B⟩
        case round =>
          obtain ⟨j, hj, rfl, HN, B2⟩ := hrel
          by_cases hjk : j < k
          · obtain ⟨q, hq⟩ : ∃ q, l[j]? = some q := ⟨_, List.getElem?_eq_getElem (by omega)⟩
            obtain ⟨n', A'⟩ := q
            have d0 := (B2.cell (p := ⟨b, off + j * 2, none⟩) hbn).trans (HCELL.out j _ hq)
            have d1 := (B2.cell (p := ⟨b, off + k * 2, none⟩) hbn).trans (HCELL.out k _ hp)
            dsimp only at d0 d1
            have hel := toList_beq2 n' n
            cases he : n' == n
            all_goals rw [he] at hel
            · have HN2 : Hid (((l.take (j + 1)).map (·.name)).any (fun x => x == n) = false) := by
                show ((l.take (j + 1)).map (·.name)).any (fun x => x == n) = false
                rw [List.take_add_one, hq]
                have := HN.out
                simp only [List.map_append, List.any_append, this]
                simp [he]
              clear hq hp c0 c1
              go_wp2
              go_quiet (fail)
              go_wp2
              exact ⟨⟨j + 1, by omega, by go_num, HN2, below_drewN B2 _⟩, by simp [intOf]; omega⟩
            · have HV : Hid (expErr most ((l.take k).map (·.name)) ⟨n, A⟩ = 6) := by
                show expErr _ _ _ = 6
                have : ((l.take k).map (·.name)).any (fun x => x == n) = true := by
                  rw [List.any_map]
                  exact any_take_le l _ j k _ hq hjk he
                simp only [expErr, h1, this]; rfl
              clear hq hp c0 c1
              go_wp2
              go_quiet (fail)
              go_wp2
              go_ret
              exact ⟨by rw [HR.out, HV.out]; rfl, below_drewN B2 _⟩
          · obtain rfl : j = k := by omega
            have d1 := (B2.cell (p := ⟨b, off + j * 2 + 1, none⟩) hbn).trans ((B.cell (p := ⟨b, off + j * 2 + 1, none⟩) hbn).symm.trans c1)
            cases h3 : betw A 0 (most - 1)
            · have HV : Hid (expErr most ((l.take j).map (·.name)) ⟨n, A⟩ = 3) := by show expErr _ _ _ = 3; simp only [expErr, h1, HN.out, h3]; rfl
              clear hp c0 c1
              go_wp2_with (go_at_call 49; refine (between_any _ _ _ _).mono ?_; rintro e w' ⟨rfl, rfl⟩)
              go_ret
              exact ⟨by rw [HR.out, HV.out]; rfl, B2⟩
            · have HV : Hid (expErr most ((l.take j).map (·.name)) ⟨n, A⟩ = 0) := by show expErr _ _ _ = 0; simp only [expErr, h1, HN.out, h3]; rfl
              clear hp c0 c1
              go_wp2_with (go_at_call 49; refine (between_any _ _ _ _).mono ?_; rintro e w' ⟨rfl, rfl⟩)
              exact ⟨⟨j + 1, by omega, by go_num, by show chkExps most [] l = _; rw [HR.out, if_pos HV.out], B2⟩, by simp [intOf]; omega⟩
    · obtain rfl : k = l.length := by omega
      have HZ : Hid (chkExps most [] l = 0) := by
        show chkExps most [] l = 0
        rw [HC.out, List.drop_length]; rfl
      go_wp2
      go_ret
      exact ⟨by rw [HZ.out]; rfl, B⟩

end Go.Proofs.Ytaklbnabgcglhab
