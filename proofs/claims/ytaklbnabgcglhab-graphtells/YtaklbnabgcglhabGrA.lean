/- The contract of graph.wrong. -/
import Derived.Test.YtaklbnabgcglhabGrM
import Derived.Test.YtaklbnabgcglhabPlcW
namespace Go.Proofs.Ytaklbnabgcglhab
open Go.RowKit Go.PlainAid Go.Maps Go.WideMaps

set_option maxRecDepth 100000

theorem chkGraph_cases (L : List Plc) : (plainErr L ≠ 0 ∧ chkGraph L = plainErr L) ∨ (plainErr L = 0 ∧ L.length ≤ 8 ∧ chkGraph L = if twiceFrom [] L = true then 6 else 0) := by
  unfold chkGraph
  by_cases h : plainErr L = 0
  · refine .inr ⟨h, ?_, by rw [if_neg (by omega)]⟩
    unfold plainErr at h
    split at h
    · omega
    · omega
  · exact .inl ⟨h, by rw [if_pos h]⟩

set_option maxHeartbeats 4000000 in
theorem graphWrong_any (l : List PV) (v : Value) (w : World) (hrow : IsPlcs w.heap.size w v l) (hfit : ∀ x ∈ l, x.mod.fits) :
    Calls Try.prog 62 #[v] w fun e w' => e = .returned (.int .i64 (chkGraph (l.map PV.plc))) ∧ Below w.heap.size w w' := by
  have HP : Hid (∀ W, Below w.heap.size w W → Calls Try.prog 73 #[v, .slice none 0 0] W fun e w' => e = .returned (.int .i64 (plainErr (l.map PV.plc))) ∧ Below W.heap.size W w') := by
    intro W hb
    have := placedWrong_nil l v W ((hrow.below hb).more hb.size) hfit
    unfold plainErr
    rw [List.length_map]
    exact this
  have hat := hrow.2
  obtain ⟨⟨a, cap, rfl, hmax, hrow⟩, _⟩ := hrow
  have key := chkGraph_cases (l.map PV.plc)
  rw [List.length_map] at key
  generalize chkGraph (l.map PV.plc) = R at *
  generalize plainErr (l.map PV.plc) = cp at *
  have hmm := @run_makeMap Try.prog
  go_enter Try.func62, Try.ntmps62
  go_wp2_with fail
  refine (HP.out w (Below.refl _ _)).mono ?_
  rintro e w2 ⟨rfl, B2⟩
  clear HP
  rcases key with ⟨h0, rfl⟩ | ⟨rfl, h8, hR⟩
  · have h0' : (R != 0) = true := by simpa using h0
    clear hrow hat h0
    go_wp2
    go_ret
    exact ⟨rfl, B2⟩
  · have HRR : Hid (R = if twiceFrom [] (l.map PV.plc) = true then 6 else 0) := hR
    clear hR
    go_wp2
    go_loopw [17] (fun i wr => ∃ (k : Nat) (D : DataW Unit), k ≤ l.length ∧ i = .int .i64 k ∧ wr.ownsMap Try.prog 9 (plainElem Try.prog 3) w2.heap.size k D ∧ HasNames D ((l.take k).map (·.mod.name)) ∧ Hid (twiceFrom [] (l.map PV.plc) = twiceFrom ((l.take k).map (·.mod.name)) ((l.drop k).map PV.plc)) ∧ Below w2.heap.size w2 wr) (fun i _ => l.length - (intOf i).toNat)
    case atStart => exact ⟨0, .map [], Nat.zero_le _, rfl, World.ownsMap_made _ _ _ _, HasNames.none, by show twiceFrom [] (l.map PV.plc) = twiceFrom [] ((l.drop 0).map PV.plc); rfl, (Below.refl _ _).alloc (Nat.le_refl _) _⟩
    case round =>
      obtain ⟨k, D, hk, rfl, hown, hD, HC, B⟩ := hrel
      have B' : Below w.heap.size w wr := B2.trans (B.mono B2.size)
      by_cases hlt : k < l.length
      · obtain ⟨x, hx⟩ : ∃ x, l[k]? = some x := ⟨_, List.getElem?_eq_getElem hlt⟩
        rcases hrow with h | ⟨b, off, rfl, hbn, hcells⟩
        · subst h; simp at hlt
        have hn : x.mod.name.size ≤ 9223372036854775807 := (hfit x (List.mem_of_getElem? hx)).1
        have htk : (l.take (k + 1)).map (·.mod.name) = (l.take k).map (·.mod.name) ++ [x.mod.name] := by rw [List.take_add_one, hx]; simp
        have HR : Hid (twiceFrom [] (l.map PV.plc) = ((((l.take k).map (·.mod.name)).any fun y => y == x.mod.name) || twiceFrom ((l.take (k + 1)).map (·.mod.name)) ((l.drop (k + 1)).map PV.plc))) := by
          show twiceFrom [] (l.map PV.plc) = _
          rw [HC.out, drop_at hx, htk]; rfl
        have hhas := hD x.mod.name
        have HPUT : Hid (∀ d, HasNames (D.put (.string x.mod.name.data.toList) d) ((l.take (k + 1)).map (·.mod.name))) := fun d => by rw [htk]; exact hD.put hown.isMap x.mod.name d
        have hkey : keyOf Try.prog 9 (.string x.mod.name) = some (.string x.mod.name.data.toList) := keyOf_string_mk Try.underlying9 hn
        obtain ⟨⟨pe, ke, e4, _⟩, ⟨pi, ki, e5, _⟩, ⟨pp, kp, e6, _⟩⟩ := hat x (List.mem_of_getElem? hx)
        obtain ⟨⟨N, ma, mi, T, es, is, ps⟩, ve, vi, vp, fi⟩ := x
        dsimp only at e4 e5 e6 hn HR hhas HPUT hkey
        subst e4 e5 e6
        have c0 := (B'.cell (p := ⟨b, off + k * 8 + 0, none⟩) hbn).trans (hcells k _ hx 0 (by omega))
        have c1 := (B'.cell (p := ⟨b, off + k * 8 + 1, none⟩) hbn).trans (hcells k _ hx 1 (by omega))
        have c2 := (B'.cell (p := ⟨b, off + k * 8 + 2, none⟩) hbn).trans (hcells k _ hx 2 (by omega))
        have c3 := (B'.cell (p := ⟨b, off + k * 8 + 3, none⟩) hbn).trans (hcells k _ hx 3 (by omega))
        have c4 := (B'.cell (p := ⟨b, off + k * 8 + 4, none⟩) hbn).trans (hcells k _ hx 4 (by omega))
        have c5 := (B'.cell (p := ⟨b, off + k * 8 + 5, none⟩) hbn).trans (hcells k _ hx 5 (by omega))
        have c6 := (B'.cell (p := ⟨b, off + k * 8 + 6, none⟩) hbn).trans (hcells k _ hx 6 (by omega))
        have c7 := (B'.cell (p := ⟨b, off + k * 8 + 7, none⟩) hbn).trans (hcells k _ hx 7 (by omega))
        dsimp only [PV.cell] at c0 c1 c2 c3 c4 c5 c6 c7
        rw [Nat.add_zero] at c0
        clear HC hcells hx hat htk hD
        generalize es.length = le at *
        generalize is.length = li at *
        generalize ps.length = lp at *
        generalize ((l.take k).map (·.mod.name)).any (fun y => y == N) = T' at HR hhas
        cases T'
        all_goals
          go_wp2_with (first
            | (at_lookup; refine wpList_lookup_own_ok_int _ rfl _ _ 125 rfl 9 3 .i64 lawS Try.underlying125 Try.underlying3 (zeroI _) w2.heap.size k D rfl (hown.kept (World.grownBy_alloc _ _ none) (by simp)) _ _ rfl hkey ?_; intro c hat hwc; clear hat hwc)
            | (at_mapUpdate; refine wpList_mapUpdate_own _ rfl _ _ _ 125 rfl 9 3 lawS Try.underlying125 _ w2.heap.size k _ rfl (hown.kept (World.grownBy_alloc _ _ none) (by simp)) (by unfold maxLen; omega) _ _ _ rfl rfl hkey _ [] (plainElem_int Try.underlying3 (WalkArith.wf_i64 (by omega))) ?_; intro w1 hown1 hgrow1))
        case roundEnd =>
          exact ⟨⟨k + 1, _, by omega, by go_num, hown1, HPUT.out _, HR.out, (B.alloc B.size _).grown hgrow1 (by simp; have := B.size; omega) (fun j hj => by cases hj; exact Nat.le_refl _)⟩, by simp [intOf]; omega⟩
        all_goals
          go_ret
          exact ⟨by rw [HRR.out, HR.out]; rfl, B'.alloc B'.size _⟩
      · obtain rfl : k = l.length := by omega
        have HZ : Hid (R = 0) := by
          show R = 0
          rw [HRR.out, HC.out, List.drop_length]; rfl
        go_wp2
        go_ret
        exact ⟨by rw [HZ.out]; rfl, B'⟩

end Go.Proofs.Ytaklbnabgcglhab
