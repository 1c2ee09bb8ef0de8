/- Texts that are laid together. -/
import Derived.Test.YtlpnfbpgnfappaaGreatMrgG
import Derived.Test.YtlpnfbpgnfappaaGreatMrgF
import Derived.Test.YtlpnfbpgnfappaaGreatMrgC
import Derived.ArgAppend
import Derived.Shelf.SlIter.Nil
import Derived.Shelf.SortM.Plain
import Derived.Shelf.SortM.SortNone
import Derived.Ground.GgzProg
import Derived.Ground.SlgmProg
import Derived.Shelf.SlGeneric
import Derived.Test.YtlpnfbpgnfappaaGreatProg
import Derived.Sort.KeysCollected

/- The contract of graph.wrong. -/
namespace Go.Proofs.YtlpnfbpgnfappaaGreat
open Go.RowKit Go.PlainAid Go.Maps Go.WideMaps

set_option maxRecDepth 100000

theorem chkGraph_cases (L : List Plc) : (plainErr L ≠ 0 ∧ chkGraph L = plainErr L) ∨ (plainErr L = 0 ∧ L.length ≤ 8 ∧ chkGraph L = if twiceFrom [] L = true then 6 else 0) := by
  unfold chkGraph
  by_cases h : plainErr L = 0
  · refine .inr ⟨h, ?_, by rw [if_neg (by omega)]⟩
    unfold plainErr at h
    split at h
    · omega
    · omega
  · exact .inl ⟨h, by rw [if_pos h]⟩

set_option maxHeartbeats 4000000 in
theorem graphWrong_any (l : List PV) (v : Value) (w : World) (hrow : IsPlcs w.heap.size w v l) (hfit : ∀ x ∈ l, x.mod.fits) :
    Calls Tryz.prog 88 #[v] w fun e w' => e = .returned (.int .i64 (chkGraph (l.map PV.plc))) ∧ Below w.heap.size w w' := by
  have HP : Hid (∀ W, Below w.heap.size w W → Calls Tryz.prog 121 #[v, .slice none 0 0] W fun e w' => e = .returned (.int .i64 (plainErr (l.map PV.plc))) ∧ Below W.heap.size W w') := by
    intro W hb
    have := placedWrong_nil l v W ((hrow.below hb).more hb.size) hfit
    unfold plainErr
    rw [List.length_map]
    exact this
  have hat := hrow.2
  obtain ⟨⟨a, cap, rfl, hmax, hrow⟩, _⟩ := hrow
  have key := chkGraph_cases (l.map PV.plc)
  rw [List.length_map] at key
  generalize chkGraph (l.map PV.plc) = R at *
  generalize plainErr (l.map PV.plc) = cp at *
  have hmm := @run_makeMap Tryz.prog
  go_enter Tryz.func88, Tryz.ntmps88
  go_wp2_with fail
  refine (HP.out w (Below.refl _ _)).mono ?_
  rintro e w2 ⟨rfl, B2⟩
  clear HP
  rcases key with ⟨h0, rfl⟩ | ⟨rfl, h8, hR⟩
  · have h0' : (R != 0) = true := by simpa using h0
    clear hrow hat h0
    go_wp2
    go_ret
    exact ⟨rfl, B2⟩
  · have HRR : Hid (R = if twiceFrom [] (l.map PV.plc) = true then 6 else 0) := hR
    clear hR
    go_wp2
    go_loopw [17] (fun i wr => ∃ (k : Nat) (D : DataW Unit), k ≤ l.length ∧ i = .int .i64 k ∧ wr.ownsMap Tryz.prog 9 (plainElem Tryz.prog 3) w2.heap.size k D ∧ HasNames D ((l.take k).map (·.mod.name)) ∧ Hid (twiceFrom [] (l.map PV.plc) = twiceFrom ((l.take k).map (·.mod.name)) ((l.drop k).map PV.plc)) ∧ Below w2.heap.size w2 wr) (fun i _ => l.length - (intOf i).toNat)
    case atStart => exact ⟨0, .map [], Nat.zero_le _, rfl, World.ownsMap_made _ _ _ _, HasNames.none, by show twiceFrom [] (l.map PV.plc) = twiceFrom [] ((l.drop 0).map PV.plc); rfl, (Below.refl _ _).alloc (Nat.le_refl _) _⟩
    case round =>
      obtain ⟨k, D, hk, rfl, hown, hD, HC, B⟩ := hrel
      have B' : Below w.heap.size w wr := B2.trans (B.mono B2.size)
      by_cases hlt : k < l.length
      · obtain ⟨x, hx⟩ : ∃ x, l[k]? = some x := ⟨_, List.getElem?_eq_getElem hlt⟩
        rcases hrow with h | ⟨b, off, rfl, hbn, hcells⟩
        · subst h; simp at hlt
        have hn : x.mod.name.size ≤ 9223372036854775807 := (hfit x (List.mem_of_getElem? hx)).1
        have htk : (l.take (k + 1)).map (·.mod.name) = (l.take k).map (·.mod.name) ++ [x.mod.name] := by rw [List.take_add_one, hx]; simp
        have HR : Hid (twiceFrom [] (l.map PV.plc) = ((((l.take k).map (·.mod.name)).any fun y => y == x.mod.name) || twiceFrom ((l.take (k + 1)).map (·.mod.name)) ((l.drop (k + 1)).map PV.plc))) := by
          show twiceFrom [] (l.map PV.plc) = _
          rw [HC.out, drop_at hx, htk]; rfl
        have hhas := hD x.mod.name
        have HPUT : Hid (∀ d, HasNames (D.put (.string x.mod.name.data.toList) d) ((l.take (k + 1)).map (·.mod.name))) := fun d => by rw [htk]; exact hD.put hown.isMap x.mod.name d
        have hkey : keyOf Tryz.prog 9 (.string x.mod.name) = some (.string x.mod.name.data.toList) := keyOf_string_mk Tryz.underlying9 hn
        obtain ⟨⟨pe, ke, e4, _⟩, ⟨pi, ki, e5, _⟩, ⟨pp, kp, e6, _⟩⟩ := hat x (List.mem_of_getElem? hx)
        obtain ⟨⟨N, ma, mi, T, es, is, ps⟩, ve, vi, vp, fi⟩ := x
        dsimp only at e4 e5 e6 hn HR hhas HPUT hkey
        subst e4 e5 e6
        have c0 := (B'.cell (p := ⟨b, off + k * 8 + 0, none⟩) hbn).trans (hcells k _ hx 0 (by omega))
        have c1 := (B'.cell (p := ⟨b, off + k * 8 + 1, none⟩) hbn).trans (hcells k _ hx 1 (by omega))
        have c2 := (B'.cell (p := ⟨b, off + k * 8 + 2, none⟩) hbn).trans (hcells k _ hx 2 (by omega))
        have c3 := (B'.cell (p := ⟨b, off + k * 8 + 3, none⟩) hbn).trans (hcells k _ hx 3 (by omega))
        have c4 := (B'.cell (p := ⟨b, off + k * 8 + 4, none⟩) hbn).trans (hcells k _ hx 4 (by omega))
        have c5 := (B'.cell (p := ⟨b, off + k * 8 + 5, none⟩) hbn).trans (hcells k _ hx 5 (by omega))
        have c6 := (B'.cell (p := ⟨b, off + k * 8 + 6, none⟩) hbn).trans (hcells k _ hx 6 (by omega))
        have c7 := (B'.cell (p := ⟨b, off + k * 8 + 7, none⟩) hbn).trans (hcells k _ hx 7 (by omega))
        dsimp only [PV.cell] at c0 c1 c2 c3 c4 c5 c6 c7
        rw [Nat.add_zero] at c0
        clear HC hcells hx hat htk hD
        generalize es.length = le at *
        generalize is.length = li at *
        generalize ps.length = lp at *
        generalize ((l.take k).map (·.mod.name)).any (fun y => y == N) = T' at HR hhas
        cases T'
        all_goals
          go_wp2_with (first
            | (at_lookup; refine wpList_lookup_own_ok_int _ rfl _ _ 171 rfl 9 3 .i64 lawS Tryz.underlying171 Tryz.underlying3 (zeroI _) w2.heap.size k D rfl (hown.kept (World.grownBy_alloc _ _ none) (by simp)) _ _ rfl hkey ?_; intro c hat hwc; clear hat hwc)
            | (at_mapUpdate; refine wpList_mapUpdate_own _ rfl _ _ _ 171 rfl 9 3 lawS Tryz.underlying171 _ w2.heap.size k _ rfl (hown.kept (World.grownBy_alloc _ _ none) (by simp)) (by unfold maxLen; omega) _ _ _ rfl rfl hkey _ [] (plainElem_int Tryz.underlying3 (WalkArith.wf_i64 (by omega))) ?_; intro w1 hown1 hgrow1))
        case roundEnd =>
          exact ⟨⟨k + 1, _, by omega, by go_num, hown1, HPUT.out _, HR.out, (B.alloc B.size _).grown hgrow1 (by simp; have := B.size; omega) (fun j hj => by cases hj; exact Nat.le_refl _)⟩, by simp [intOf]; omega⟩
        all_goals
          go_ret
          exact ⟨by rw [HRR.out, HR.out]; rfl, B'.alloc B'.size _⟩
      · obtain rfl : k = l.length := by omega
        have HZ : Hid (R = 0) := by
          show R = 0
          rw [HRR.out, HC.out, List.drop_length]; rfl
        go_wp2
        go_ret
        exact ⟨by rw [HZ.out]; rfl, B'⟩

end Go.Proofs.YtlpnfbpgnfappaaGreat

/- The contracts of slices.IndexFunc and ContainsFunc at placed modules, imports and modules; who asks whom. -/
namespace Go.Proofs.YtlpnfbpgnfappaaGreat
open Go.RowKit Go.PlainAid

set_option maxRecDepth 100000

theorem ix_any {α : Type} (p : α → Bool) : ∀ (l : List α) (k : Nat), (l.any p = true ∧ 0 ≤ ixFrom p k l) ∨ (l.any p = false ∧ ixFrom p k l = -1)
  | [], _ => .inr ⟨rfl, rfl⟩
  | x :: l, k => by
    have hs : ixFrom p k (x :: l) = if p x then (k : Int) else ixFrom p (k + 1) l := rfl
    rw [hs, List.any_cons]
    cases hx : p x
    · rw [Bool.false_or]
      exact ix_any p l (k + 1)
    · exact .inl ⟨rfl, by rw [if_pos rfl]; omega⟩

set_option maxHeartbeats 1000000 in
theorem ixPlc_any (l : List PV) (v : Value) (K : FuncId) (c : Value) (hK : ∀ w x, Sem.run Tryz.prog (callFunc K #[x, c]) w = .ok (.enter K #[x, c]) w) (p : PV → Bool) (w : World) (hrow : RowOf 8 PV.cell w.heap.size w v l)
    (hp : ∀ x ∈ l, ∀ W, Below w.heap.size w W → Calls Tryz.prog K #[x.val, c] W fun e W' => e = .returned (.bool (p x)) ∧ Below W.heap.size W W') :
    Calls Tryz.prog 79 #[v, .func (.func K) #[] #[c]] w fun e w' => e = .returned (.int .i64 (ixFrom p 0 l)) ∧ Below w.heap.size w w' := by
  obtain ⟨a, cap, rfl, _, hrow⟩ := hrow
  go_enter Tryz.func79, Tryz.ntmps79
  go_wp2
  go_loopw [8] (fun i wr => ∃ (k : Nat), k ≤ l.length ∧ i = .int .i64 k ∧ Hid (ixFrom p 0 l = ixFrom p k (l.drop k)) ∧ Below w.heap.size w wr) (fun i _ => l.length - (intOf i).toNat)
  case atStart => exact ⟨0, Nat.zero_le _, rfl, by show ixFrom p 0 l = ixFrom p 0 (l.drop 0); rfl, Below.refl _ _⟩
  case round =>
    obtain ⟨k, hk, rfl, HC, B⟩ := hrel
    by_cases hlt : k < l.length
    · obtain ⟨x, hx⟩ : ∃ x, l[k]? = some x := ⟨_, List.getElem?_eq_getElem hlt⟩
      rcases hrow with h | ⟨b, off, rfl, hbn, hcells⟩
      · subst h; simp at hlt
      have c0 := (B.cell (p := ⟨b, off + k * 8 + 0, none⟩) hbn).trans (hcells k _ hx 0 (by omega))
      have c1 := (B.cell (p := ⟨b, off + k * 8 + 1, none⟩) hbn).trans (hcells k _ hx 1 (by omega))
      have c2 := (B.cell (p := ⟨b, off + k * 8 + 2, none⟩) hbn).trans (hcells k _ hx 2 (by omega))
      have c3 := (B.cell (p := ⟨b, off + k * 8 + 3, none⟩) hbn).trans (hcells k _ hx 3 (by omega))
      have c4 := (B.cell (p := ⟨b, off + k * 8 + 4, none⟩) hbn).trans (hcells k _ hx 4 (by omega))
      have c5 := (B.cell (p := ⟨b, off + k * 8 + 5, none⟩) hbn).trans (hcells k _ hx 5 (by omega))
      have c6 := (B.cell (p := ⟨b, off + k * 8 + 6, none⟩) hbn).trans (hcells k _ hx 6 (by omega))
      have c7 := (B.cell (p := ⟨b, off + k * 8 + 7, none⟩) hbn).trans (hcells k _ hx 7 (by omega))
      dsimp only [PV.cell] at c0 c1 c2 c3 c4 c5 c6 c7
      rw [Nat.add_zero] at c0
      have HR : Hid (ixFrom p 0 l = if p x then (k : Int) else ixFrom p (k + 1) (l.drop (k + 1))) := by
        show ixFrom p 0 l = _
        rw [HC.out, drop_at hx]; rfl
      have HP' : Hid (∀ W, Below w.heap.size w W → Calls Tryz.prog K #[.agg #[.string x.mod.name, .int .i64 x.mod.major, .int .i64 x.mod.minor, .string x.mod.text, x.ve, x.vi, x.vp, .int .i64 x.first], c] W fun e W' => e = .returned (.bool (p x)) ∧ Below W.heap.size W W') := hp x (List.mem_of_getElem? hx)
      clear HC hcells hx
      generalize p x = t at HR HP'
      go_wp2_with fail
      refine Calls.mono (HP'.out _ B) ?_
      rintro e w2 ⟨rfl, b2⟩
      have B2 := B.trans (b2.mono B.size)
      clear b2 HP' c0 c1 c2 c3 c4 c5 c6 c7
      cases t
      · go_wp2
        exact ⟨⟨k + 1, by omega, by go_num, HR.out, B2⟩, by simp [intOf]; omega⟩
      · go_wp2
        go_ret
        exact ⟨by rw [HR.out]; rfl, B2⟩
    · obtain rfl : k = l.length := by omega
      have HZ : Hid (ixFrom p 0 l = -1) := by
        show ixFrom p 0 l = -1
        rw [HC.out, List.drop_length]; rfl
      go_wp2
      go_ret
      exact ⟨by rw [HZ.out]; rfl, B⟩

set_option maxHeartbeats 1000000 in
theorem ixImp_any (l : List Imp) (v : Value) (K : FuncId) (c : Value) (hK : ∀ w x, Sem.run Tryz.prog (callFunc K #[x, c]) w = .ok (.enter K #[x, c]) w) (p : Imp → Bool) (w : World) (hrow : RowOf 4 Imp.cell w.heap.size w v l)
    (hp : ∀ x ∈ l, ∀ W, Below w.heap.size w W → Calls Tryz.prog K #[.agg #[.string x.mod, .string x.name, .int .i64 x.major, .int .i64 x.minor], c] W fun e W' => e = .returned (.bool (p x)) ∧ Below W.heap.size W W') :
    Calls Tryz.prog 181 #[v, .func (.func K) #[] #[c]] w fun e w' => e = .returned (.int .i64 (ixFrom p 0 l)) ∧ Below w.heap.size w w' := by
  obtain ⟨a, cap, rfl, _, hrow⟩ := hrow
  go_enter Tryz.func181, Tryz.ntmps181
  go_wp2
  go_loopw [8] (fun i wr => ∃ (k : Nat), k ≤ l.length ∧ i = .int .i64 k ∧ Hid (ixFrom p 0 l = ixFrom p k (l.drop k)) ∧ Below w.heap.size w wr) (fun i _ => l.length - (intOf i).toNat)
  case atStart => exact ⟨0, Nat.zero_le _, rfl, by show ixFrom p 0 l = ixFrom p 0 (l.drop 0); rfl, Below.refl _ _⟩
  case round =>
    obtain ⟨k, hk, rfl, HC, B⟩ := hrel
    by_cases hlt : k < l.length
    · obtain ⟨x, hx⟩ : ∃ x, l[k]? = some x := ⟨_, List.getElem?_eq_getElem hlt⟩
      rcases hrow with h | ⟨b, off, rfl, hbn, hcells⟩
      · subst h; simp at hlt
      have c0 := (B.cell (p := ⟨b, off + k * 4 + 0, none⟩) hbn).trans (hcells k _ hx 0 (by omega))
      have c1 := (B.cell (p := ⟨b, off + k * 4 + 1, none⟩) hbn).trans (hcells k _ hx 1 (by omega))
      have c2 := (B.cell (p := ⟨b, off + k * 4 + 2, none⟩) hbn).trans (hcells k _ hx 2 (by omega))
      have c3 := (B.cell (p := ⟨b, off + k * 4 + 3, none⟩) hbn).trans (hcells k _ hx 3 (by omega))
      dsimp only [Imp.cell] at c0 c1 c2 c3
      rw [Nat.add_zero] at c0
      have HR : Hid (ixFrom p 0 l = if p x then (k : Int) else ixFrom p (k + 1) (l.drop (k + 1))) := by
        show ixFrom p 0 l = _
        rw [HC.out, drop_at hx]; rfl
      have HP' : Hid (∀ W, Below w.heap.size w W → Calls Tryz.prog K #[.agg #[.string x.mod, .string x.name, .int .i64 x.major, .int .i64 x.minor], c] W fun e W' => e = .returned (.bool (p x)) ∧ Below W.heap.size W W') := hp x (List.mem_of_getElem? hx)
      clear HC hcells hx
      generalize p x = t at HR HP'
      go_wp2_with fail
      refine Calls.mono (HP'.out _ B) ?_
      rintro e w2 ⟨rfl, b2⟩
      have B2 := B.trans (b2.mono B.size)
      clear b2 HP' c0 c1 c2 c3
      cases t
      · go_wp2
        exact ⟨⟨k + 1, by omega, by go_num, HR.out, B2⟩, by simp [intOf]; omega⟩
      · go_wp2
        go_ret
        exact ⟨by rw [HR.out]; rfl, B2⟩
    · obtain rfl : k = l.length := by omega
      have HZ : Hid (ixFrom p 0 l = -1) := by
        show ixFrom p 0 l = -1
        rw [HC.out, List.drop_length]; rfl
      go_wp2
      go_ret
      exact ⟨by rw [HZ.out]; rfl, B⟩

set_option maxHeartbeats 1000000 in
theorem ixMod_any (l : List PV) (v : Value) (K : FuncId) (c : Value) (d : Value) (hK : ∀ w x, Sem.run Tryz.prog (callFunc K #[x, c, d]) w = .ok (.enter K #[x, c, d]) w) (p : PV → Bool) (w : World) (hrow : RowOf 7 PV.cell w.heap.size w v l)
    (hp : ∀ x ∈ l, ∀ W, Below w.heap.size w W → Calls Tryz.prog K #[x.modV, c, d] W fun e W' => e = .returned (.bool (p x)) ∧ Below W.heap.size W W') :
    Calls Tryz.prog 146 #[v, .func (.func K) #[] #[c, d]] w fun e w' => e = .returned (.int .i64 (ixFrom p 0 l)) ∧ Below w.heap.size w w' := by
  obtain ⟨a, cap, rfl, _, hrow⟩ := hrow
  go_enter Tryz.func146, Tryz.ntmps146
  go_wp2
  go_loopw [8] (fun i wr => ∃ (k : Nat), k ≤ l.length ∧ i = .int .i64 k ∧ Hid (ixFrom p 0 l = ixFrom p k (l.drop k)) ∧ Below w.heap.size w wr) (fun i _ => l.length - (intOf i).toNat)
  case atStart => exact ⟨0, Nat.zero_le _, rfl, by show ixFrom p 0 l = ixFrom p 0 (l.drop 0); rfl, Below.refl _ _⟩
  case round =>
    obtain ⟨k, hk, rfl, HC, B⟩ := hrel
    by_cases hlt : k < l.length
    · obtain ⟨x, hx⟩ : ∃ x, l[k]? = some x := ⟨_, List.getElem?_eq_getElem hlt⟩
      rcases hrow with h | ⟨b, off, rfl, hbn, hcells⟩
      · subst h; simp at hlt
      have c0 := (B.cell (p := ⟨b, off + k * 7 + 0, none⟩) hbn).trans (hcells k _ hx 0 (by omega))
      have c1 := (B.cell (p := ⟨b, off + k * 7 + 1, none⟩) hbn).trans (hcells k _ hx 1 (by omega))
      have c2 := (B.cell (p := ⟨b, off + k * 7 + 2, none⟩) hbn).trans (hcells k _ hx 2 (by omega))
      have c3 := (B.cell (p := ⟨b, off + k * 7 + 3, none⟩) hbn).trans (hcells k _ hx 3 (by omega))
      have c4 := (B.cell (p := ⟨b, off + k * 7 + 4, none⟩) hbn).trans (hcells k _ hx 4 (by omega))
      have c5 := (B.cell (p := ⟨b, off + k * 7 + 5, none⟩) hbn).trans (hcells k _ hx 5 (by omega))
      have c6 := (B.cell (p := ⟨b, off + k * 7 + 6, none⟩) hbn).trans (hcells k _ hx 6 (by omega))
      dsimp only [PV.cell] at c0 c1 c2 c3 c4 c5 c6
      rw [Nat.add_zero] at c0
      have HR : Hid (ixFrom p 0 l = if p x then (k : Int) else ixFrom p (k + 1) (l.drop (k + 1))) := by
        show ixFrom p 0 l = _
        rw [HC.out, drop_at hx]; rfl
      have HP' : Hid (∀ W, Below w.heap.size w W → Calls Tryz.prog K #[.agg #[.string x.mod.name, .int .i64 x.mod.major, .int .i64 x.mod.minor, .string x.mod.text, x.ve, x.vi, x.vp], c, d] W fun e W' => e = .returned (.bool (p x)) ∧ Below W.heap.size W W') := hp x (List.mem_of_getElem? hx)
      clear HC hcells hx
      generalize p x = t at HR HP'
      go_wp2_with fail
      refine Calls.mono (HP'.out _ B) ?_
      rintro e w2 ⟨rfl, b2⟩
      have B2 := B.trans (b2.mono B.size)
      clear b2 HP' c0 c1 c2 c3 c4 c5 c6
      cases t
      · go_wp2
        exact ⟨⟨k + 1, by omega, by go_num, HR.out, B2⟩, by simp [intOf]; omega⟩
      · go_wp2
        go_ret
        exact ⟨by rw [HR.out]; rfl, B2⟩
    · obtain rfl : k = l.length := by omega
      have HZ : Hid (ixFrom p 0 l = -1) := by
        show ixFrom p 0 l = -1
        rw [HC.out, List.drop_length]; rfl
      go_wp2
      go_ret
      exact ⟨by rw [HZ.out]; rfl, B⟩

set_option maxHeartbeats 1000000 in
theorem anyImp_any (l : List Imp) (v : Value) (K : FuncId) (c : Value) (hK : ∀ w x, Sem.run Tryz.prog (callFunc K #[x, c]) w = .ok (.enter K #[x, c]) w) (p : Imp → Bool) (w : World) (hrow : RowOf 4 Imp.cell w.heap.size w v l)
    (hp : ∀ x ∈ l, ∀ W, Below w.heap.size w W → Calls Tryz.prog K #[.agg #[.string x.mod, .string x.name, .int .i64 x.major, .int .i64 x.minor], c] W fun e W' => e = .returned (.bool (p x)) ∧ Below W.heap.size W W') :
    Calls Tryz.prog 156 #[v, .func (.func K) #[] #[c]] w fun e w' => e = .returned (.bool (l.any p)) ∧ Below w.heap.size w w' := by
  have HI : Hid (Calls Tryz.prog 181 #[v, .func (.func K) #[] #[c]] w fun e w' => e = .returned (.int .i64 (ixFrom p 0 l)) ∧ Below w.heap.size w w') := ixImp_any l v K c hK p w hrow hp
  obtain ⟨a, cap, rfl, _, _⟩ := hrow
  have key := ix_any p l 0
  generalize l.any p = r at *
  generalize ixFrom p 0 l = ix at *
  generalize l.length = ll at *
  clear hK hp
  go_enter Tryz.func156, Tryz.ntmps156
  go_wp2_with fail
  refine HI.out.mono ?_
  rintro e w2 ⟨rfl, b2⟩
  clear HI
  rcases key with ⟨rfl, h1⟩ | ⟨rfl, rfl⟩
  · go_wp2
    go_ret
    exact ⟨rfl, b2⟩
  · go_wp2
    go_ret
    exact ⟨rfl, b2⟩

set_option maxHeartbeats 1000000 in
theorem anyMod_any (l : List PV) (v : Value) (K : FuncId) (c : Value) (d : Value) (hK : ∀ w x, Sem.run Tryz.prog (callFunc K #[x, c, d]) w = .ok (.enter K #[x, c, d]) w) (p : PV → Bool) (w : World) (hrow : RowOf 7 PV.cell w.heap.size w v l)
    (hp : ∀ x ∈ l, ∀ W, Below w.heap.size w W → Calls Tryz.prog K #[x.modV, c, d] W fun e W' => e = .returned (.bool (p x)) ∧ Below W.heap.size W W') :
    Calls Tryz.prog 144 #[v, .func (.func K) #[] #[c, d]] w fun e w' => e = .returned (.bool (l.any p)) ∧ Below w.heap.size w w' := by
  have HI : Hid (Calls Tryz.prog 146 #[v, .func (.func K) #[] #[c, d]] w fun e w' => e = .returned (.int .i64 (ixFrom p 0 l)) ∧ Below w.heap.size w w') := ixMod_any l v K c d hK p w hrow hp
  obtain ⟨a, cap, rfl, _, _⟩ := hrow
  have key := ix_any p l 0
  generalize l.any p = r at *
  generalize ixFrom p 0 l = ix at *
  generalize l.length = ll at *
  clear hK hp
  go_enter Tryz.func144, Tryz.ntmps144
  go_wp2_with fail
  refine HI.out.mono ?_
  rintro e w2 ⟨rfl, b2⟩
  clear HI
  rcases key with ⟨rfl, h1⟩ | ⟨rfl, rfl⟩
  · go_wp2
    go_ret
    exact ⟨rfl, b2⟩
  · go_wp2
    go_ret
    exact ⟨rfl, b2⟩

set_option maxHeartbeats 1000000 in
theorem asks1_any (B : Nat) (name : ByteArray) (x : Imp) (w : World) (hlt : B < w.heap.size) (hB : w.cell? ⟨B, 0, none⟩ = some (.string name)) :
    Calls Tryz.prog 157 #[.agg #[.string x.mod, .string x.name, .int .i64 x.major, .int .i64 x.minor], .pointer (some ⟨B, 0, none⟩)] w fun e w' => e = .returned (.bool (x.mod == name)) ∧ Below w.heap.size w w' := by
  rw [← toList_beq2]
  obtain ⟨M, N, a, b⟩ := x
  dsimp only
  go_enter Tryz.func157, Tryz.ntmps157
  go_wp2
  go_ret
  exact ⟨rfl, (Below.refl _ _).alloc (Nat.le_refl _) _⟩

set_option maxHeartbeats 1000000 in
theorem asks_any (M : Mod) (v : Value) (name : ByteArray) (w : World) (hM : IsMod w.heap.size w v M) :
    Calls Tryz.prog 99 #[v, .string name] w fun e w' => e = .returned (.bool (asksM M name)) ∧ Below w.heap.size w w' := by
  obtain ⟨ve, vi, vp, rfl, hE, hI, hP⟩ := hM
  have HA : Hid (∀ W B, Below w.heap.size w W → B < W.heap.size → W.cell? ⟨B, 0, none⟩ = some (.string name) → Calls Tryz.prog 156 #[vi, .func (.func 157) #[] #[.pointer (some ⟨B, 0, none⟩)]] W fun e w' => e = .returned (.bool (asksM M name)) ∧ Below W.heap.size W w') := by
    intro W B hb hlt hB
    exact anyImp_any M.imps vi 157 (.pointer (some ⟨B, 0, none⟩)) (fun w x => enters_of Tryz.func157 (by kernel_rfl) rfl _ w) _ W ((hI.below hb).more hb.size) (fun x _ W' hb' => asks1_any B name x W' (Nat.lt_of_lt_of_le hlt hb'.size) ((hb'.cell (p := ⟨B, 0, none⟩) hlt).trans hB))
  obtain ⟨pe, ke, rfl, _, _⟩ := hE
  obtain ⟨pi, ki, rfl, _, _⟩ := hI
  obtain ⟨pp, kp, rfl, _, _⟩ := hP
  generalize asksM M name = r at *
  obtain ⟨N, ma, mi, T, es, is, ps⟩ := M
  dsimp only at *
  generalize es.length = le at *
  generalize is.length = li at *
  generalize ps.length = lp at *
  have HB : Hid (Below w.heap.size w ((w.alloc (.cells #[.string N, .int .i64 ma, .int .i64 mi, .string T, .slice pe le ke, .slice pi li ki, .slice pp lp kp] 31)).alloc (.cells #[.string name] 9))) := ((Below.refl _ _).alloc (Nat.le_refl _) _).alloc (by simp) _
  have HC : Hid (((w.alloc (.cells #[.string N, .int .i64 ma, .int .i64 mi, .string T, .slice pe le ke, .slice pi li ki, .slice pp lp kp] 31)).alloc (.cells #[.string name] 9)).cell? ⟨w.heap.size + 1, 0, none⟩ = some (.string name)) := by
    have := (CellsAt.new (w.alloc (.cells #[.string N, .int .i64 ma, .int .i64 mi, .string T, .slice pe le ke, .slice pi li ki, .slice pp lp kp] 31)) 9 #[.string name]).cell 0
    rw [World.size_alloc] at this
    exact this
  go_enter Tryz.func99, Tryz.ntmps99
  go_wp2_with fail
  refine (HA.out _ (w.heap.size + 1) HB.out (by simp) HC.out).mono ?_
  rintro e w2 ⟨rfl, b2⟩
  have B2 := HB.out.trans (b2.mono HB.out.size)
  clear HA HB HC b2
  go_wp2
  go_ret
  exact ⟨rfl, B2⟩

end Go.Proofs.YtlpnfbpgnfappaaGreat

/- A row of numbers that is taken from ahead and appended to behind. -/
namespace Go.Proofs.YtlpnfbpgnfappaaGreat
open Go.RowKit Go.PlainAid

set_option maxRecDepth 100000

def QRow (W : World) (base : Nat) (v : Value) (xs : List Nat) : Prop := ∃ g o cap cur, v = .slice (some ⟨g, o, none⟩) xs.length cap ∧ base ≤ g ∧ CellsAt W g 3 cur ∧ xs.length ≤ cap ∧ o + cap ≤ cur.size ∧ cap ≤ 9223372036854775807 ∧ ∀ (j x : Nat), xs[j]? = some x → cur[o + j]? = some (.int .i64 x)
theorem QRow.kept {W W' : World} {base : Nat} {v : Value} {xs : List Nat} {row : Option Nat} (h : QRow W base v xs) (hg : W.grownBy W' row) (hne : ∀ g, v.ownBlock = some g → some g ≠ row) : QRow W' base v xs := by
  obtain ⟨g, o, cap, cur, rfl, h1, h2, h3⟩ := h
  exact ⟨g, o, cap, cur, rfl, h1, h2.kept hg (hne g rfl), h3⟩
theorem QRow.below {W W' : World} {base n : Nat} {v : Value} {xs : List Nat} (h : QRow W base v xs) (hb : Below n W W') (hn : W.heap.size ≤ n) : QRow W' base v xs := by
  obtain ⟨g, o, cap, cur, rfl, h1, h2, h3⟩ := h
  exact ⟨g, o, cap, cur, rfl, h1, h2.below hb (Nat.lt_of_lt_of_le h2.lt hn), h3⟩
theorem QRow.base {W : World} {base : Nat} {v : Value} {xs : List Nat} (h : QRow W base v xs) : ∀ g, v.ownBlock = some g → base ≤ g ∧ g < W.heap.size := by
  obtain ⟨g, o, cap, cur, rfl, h1, h2, h3⟩ := h
  intro k hk
  have : g = k := by simpa [Value.ownBlock] using hk
  subst this
  exact ⟨h1, h2.lt⟩
theorem QRow.form {W : World} {base : Nat} {v : Value} {xs : List Nat} (h : QRow W base v xs) : ∃ g o cap, v = .slice (some ⟨g, o, none⟩) xs.length cap ∧ xs.length ≤ cap ∧ cap ≤ 9223372036854775807 ∧ g < W.heap.size := by
  obtain ⟨g, o, cap, cur, rfl, h1, h2, h3, h4, h5, _⟩ := h
  exact ⟨g, o, cap, rfl, h3, h5, h2.lt⟩
/-- The first one, and the rest. -/
theorem QRow.pop {W : World} {base g o cap : Nat} {x : Nat} {xs : List Nat} (h : QRow W base (.slice (some ⟨g, o, none⟩) (x :: xs).length cap) (x :: xs)) :
    W.cell? ⟨g, o, none⟩ = some (.int .i64 x) ∧ ∃ o2, (if cap = 1 then some (⟨g, o, none⟩ : Addr) else some ⟨g, o + 1, none⟩) = some ⟨g, o2, none⟩ ∧ QRow W base (.slice (some ⟨g, o2, none⟩) xs.length (cap - 1)) xs := by
  obtain ⟨g', o', cap', cur, he, h1, h2, h3, h4, h5, h6⟩ := h
  injection he with q1 q2 q3
  injection q1 with q1
  injection q1 with q1 q4
  subst q1 q3 q4
  have c0 := h2.cell o
  have h60 := h6 0 x rfl
  rw [Nat.add_zero] at h60
  refine ⟨c0.trans h60, ?_⟩
  simp at h3
  by_cases hc : cap = 1
  · obtain rfl : xs = [] := List.length_eq_zero_iff.1 (by omega)
    exact ⟨o, by rw [if_pos hc], g, o, cap - 1, cur, rfl, h1, h2, by simp, by omega, by omega, fun j y hj => by simp at hj⟩
  · refine ⟨o + 1, by rw [if_neg hc], g, o + 1, cap - 1, cur, rfl, h1, h2, by omega, by omega, by omega, fun j y hj => ?_⟩
    have := h6 (j + 1) y (by simpa using hj)
    rw [show o + 1 + j = o + (j + 1) by omega]
    exact this

theorem wpList_queue (w : World) {ops : Array Oper} {rest : List Oper} {o : Oper} {a : Act} {Q : Exit → Act → World → Prop}
    (hg : o.guard = none) (s x : Operand) (hop : o.op = Op.call { callee := Callee.builtin Builtin.append, args := #[s, x], argTypes := #[64, 64] })
    (base : Nat) (v : Value) (xs : List Nat) (hs : a.eval s = v) (hq : QRow w base v xs) (B : Nat) (y : Nat) (hx : a.eval x = .slice (some ⟨B, 0, none⟩) 1 1) (hB : w.cell? ⟨B, 0, none⟩ = some (.int .i64 y)) (hl : xs.length ≤ 1000) (hbase : base ≤ w.heap.size)
    (h : ∀ v' w', QRow w' base v' (xs ++ [y]) → w.grownBy w' v.ownBlock → (∀ k, v'.ownBlock = some k → v.ownBlock = some k ∨ w.heap.size ≤ k) → wpList Tryz.prog ops Q rest (a.put o.dst v') w') : wpList Tryz.prog ops Q (o :: rest) a w := by
  obtain ⟨ii, hii, hz0, hz1, hz2⟩ := infoInt_parts
  obtain ⟨g, of, cap, cur, rfl, h1, h2, h3, h4, h5, h6⟩ := hq
  refine wpList_append_arg (P := Tryz.prog) w hg s x 64 hop 3 ii (.int .i64 0) 1 8 Tryz.underlying64 hii hz0 hz1 hz2 rfl (by omega) g of xs.length cap (xs.map fun n : Nat => Value.int .i64 (n : Int)) hs (by simp) ?_ ⟨B, 0, none⟩ 1 1 [.int .i64 (y : Int)] hx rfl ?_ (by simp [Value.oneCell']) ?_ (by unfold maxLen; omega) (by omega) ?_ ?_
  · intro j u hj
    rw [List.getElem?_map] at hj
    obtain ⟨n, hn, rfl⟩ := Option.map_eq_some_iff.1 hj
    exact (h2.cell (of + j)).trans (h6 j n hn)
  · intro j u hj
    cases j with
    | zero =>
      simp at hj
      subst hj
      exact hB
    | succ j => simp at hj
  · intro hr j hj
    simp at hj
    subst hj
    refine ⟨?_, h2.frozen _⟩
    rw [h2.cell]
    have : of + xs.length * 1 + 0 < cur.size := by omega
    rw [Array.getElem?_eq_getElem this]
    rfl
  · intro hr
    have e1 : w.setCells g (of + xs.length * 1) [.int .i64 (y : Int)] = w.setCell ⟨g, of + xs.length, none⟩ (.int .i64 (y : Int)) := by simp [World.setCells]
    rw [e1]
    refine h _ _ ⟨g, of, cap, cur.setIfInBounds (of + xs.length) (.int .i64 (y : Int)), by simp, h1, h2.set _ _, by simp; omega, by simpa using h4, h5, ?_⟩ (grown_set _ _ _ _) (fun k hk => .inl hk)
    intro j n hj
    rw [Array.getElem?_setIfInBounds]
    by_cases hjl : j = xs.length
    · subst hjl
      rw [if_pos rfl, if_pos (by omega)]
      simp at hj
      rw [hj]
    · rw [if_neg (by omega)]
      have hj' : j < xs.length := by
        have := (List.getElem?_eq_some_iff.1 hj).1
        simp at this
        omega
      exact h6 j n (by rw [List.getElem?_append_left hj'] at hj; exact hj)
  · intro hr v' w' hown hgr
    refine h v' w' ?_ (hgr.but _) (fun k hk => .inr (own_block hown k hk))
    rcases hown.2 with ⟨_, h0⟩ | ⟨g', cap', cur', rfl, hg', hb', hn', hm', hs', ht'⟩
    · omega
    · refine ⟨g', 0, cap', cur', by simp, by omega, hb', by simp; omega, by omega, by unfold maxLen at hm'; omega, ?_⟩
      intro j n hj
      have hjl : j < xs.length + 1 := by
        have := (List.getElem?_eq_some_iff.1 hj).1
        simpa using this
      have e2 : (xs.map fun n : Nat => Value.int .i64 (n : Int)) ++ [.int .i64 (y : Int)] = (xs ++ [y]).map fun n : Nat => Value.int .i64 (n : Int) := by simp
      rw [e2] at ht'
      have h7 : ((xs ++ [y]).map fun n : Nat => Value.int .i64 (n : Int))[j]? = some (.int .i64 (n : Int)) := by rw [List.getElem?_map, hj]; rfl
      rw [← ht', List.getElem?_take, if_pos (by omega)] at h7
      rw [Nat.zero_add]
      simpa using h7

end Go.Proofs.YtlpnfbpgnfappaaGreat

/- The contract of slices.Sorted(maps.Keys(m)), over the library's. -/
namespace Go.Proofs.YtlpnfbpgnfappaaGreat
open Go.Shelf Go.RowKit Go.Maps Go.Sort

set_option maxRecDepth 100000

def keysL_ren : Go.Shelf.Ren := ⟨fun | 7 => 155 | 10 => 180 | n => n, fun | 23 => 171 | 26 => 9 | 3 => 3 | 28 => 182 | 0 => 0 | 27 => 181 | 33 => 141 | 4 => 4 | n => n, fun | n => n⟩
theorem keysL : Go.Proofs.SlLaysZ.n7 Tryz.prog keysL_ren := {
  mixed := by kernel_rfl
  f7 := ⟨Tryz.f155.name, by decide, Tryz.func155.trans (congrArg some (by kernel_rfl))⟩
  f10 := ⟨Tryz.f180.name, by decide, Tryz.func180.trans (congrArg some (by kernel_rfl))⟩
  t0 := Tryz.underlying0
  a0 := Tryz.isAgg0
  z0 := Tryz.sizeOf0
  v0 := Tryz.zeroValue0
  t4 := Tryz.underlying4
  a4 := Tryz.isAgg4
  z4 := Tryz.sizeOf4
  v4 := Tryz.zeroValue4
  t23 := Tryz.underlying171
  a23 := Tryz.isAgg171
  z23 := Tryz.sizeOf171
  v23 := Tryz.zeroValue171
  t26 := Tryz.underlying9
  a26 := Tryz.isAgg9
  z26 := Tryz.sizeOf9
  v26 := Tryz.zeroValue9
  t27 := Tryz.underlying181
  a27 := Tryz.isAgg181
  z27 := Tryz.sizeOf181
  v27 := Tryz.zeroValue181
  t28 := Tryz.underlying182
  a28 := Tryz.isAgg182
  z28 := Tryz.sizeOf182
  v28 := Tryz.zeroValue182
  t33 := Tryz.underlying141
  a33 := Tryz.isAgg141
  z33 := Tryz.sizeOf141
  v33 := Tryz.zeroValue141 }
def sortedL_ren : Go.Shelf.Ren := ⟨fun | 6 => 154 | 8 => 178 | 9 => 179 | 11 => 202 | 13 => 175 | 12 => 203 | 23 => 198 | 24 => 199 | 14 => 220 | 15 => 221 | 16 => 222 | 17 => 223 | 18 => 224 | 19 => 225 | 20 => 226 | 21 => 227 | 22 => 228 | 25 => 236 | 26 => 216 | 27 => 217 | 28 => 237 | 29 => 238 | 30 => 239 | 31 => 244 | n => n, fun | 26 => 9 | 28 => 182 | 24 => 67 | 0 => 0 | 3 => 3 | 37 => 204 | 48 => 224 | 50 => 226 | 4 => 4 | 40 => 218 | 39 => 217 | 45 => 172 | 5 => 5 | 9 => 9 | 51 => 245 | 55 => 249 | 57 => 260 | 58 => 261 | 33 => 141 | n => n, fun | n => n⟩
theorem sortedL : Go.Proofs.SlLaysZ.n6 Tryz.prog sortedL_ren := {
  mixed := by kernel_rfl
  f6 := ⟨Tryz.f154.name, by decide, Tryz.func154.trans (congrArg some (by kernel_rfl))⟩
  f8 := ⟨Tryz.f178.name, by decide, Tryz.func178.trans (congrArg some (by kernel_rfl))⟩
  f11 := ⟨Tryz.f202.name, by decide, Tryz.func202.trans (congrArg some (by kernel_rfl))⟩
  t0 := Tryz.underlying0
  a0 := Tryz.isAgg0
  z0 := Tryz.sizeOf0
  v0 := Tryz.zeroValue0
  t24 := Tryz.underlying67
  a24 := Tryz.isAgg67
  z24 := Tryz.sizeOf67
  v24 := Tryz.zeroValue67
  t26 := Tryz.underlying9
  a26 := Tryz.isAgg9
  z26 := Tryz.sizeOf9
  v26 := Tryz.zeroValue9
  t28 := Tryz.underlying182
  a28 := Tryz.isAgg182
  z28 := Tryz.sizeOf182
  v28 := Tryz.zeroValue182
  i26 := by kernel_rfl }
def sortL_ren : Go.Shelf.Ren := ⟨fun | 6 => 179 | 8 => 175 | 9 => 203 | 19 => 198 | 20 => 199 | 21 => 220 | 22 => 221 | 23 => 222 | 24 => 223 | 25 => 224 | 26 => 225 | 27 => 226 | 28 => 227 | 29 => 228 | 36 => 236 | 31 => 216 | 32 => 217 | 37 => 237 | 38 => 238 | 39 => 239 | 41 => 244 | n => n, fun | 27 => 67 | 29 => 9 | 3 => 3 | 32 => 204 | 26 => 67 | 0 => 0 | 44 => 224 | 46 => 226 | 4 => 4 | 36 => 218 | 35 => 217 | 41 => 172 | 5 => 5 | 9 => 9 | 53 => 245 | 57 => 249 | 63 => 260 | 64 => 261 | n => n, fun | n => n⟩
theorem sortL : Go.Proofs.SlLaysM.n6 Tryz.prog sortL_ren := {
  mixed := by kernel_rfl
  f6 := ⟨Tryz.f179.name, by decide, Tryz.func179.trans (congrArg some (by kernel_rfl))⟩
  f8 := Tryz.func175.trans (congrArg some (by kernel_rfl))
  f9 := ⟨Tryz.f203.name, by decide, Tryz.func203.trans (congrArg some (by kernel_rfl))⟩
  f19 := Tryz.func198.trans (congrArg some (by kernel_rfl))
  f20 := Tryz.func199.trans (congrArg some (by kernel_rfl))
  f21 := ⟨Tryz.f220.name, by decide, Tryz.func220.trans (congrArg some (by kernel_rfl))⟩
  f22 := ⟨Tryz.f221.name, by decide, Tryz.func221.trans (congrArg some (by kernel_rfl))⟩
  f23 := ⟨Tryz.f222.name, by decide, Tryz.func222.trans (congrArg some (by kernel_rfl))⟩
  f24 := ⟨Tryz.f223.name, by decide, Tryz.func223.trans (congrArg some (by kernel_rfl))⟩
  f25 := ⟨Tryz.f224.name, by decide, Tryz.func224.trans (congrArg some (by kernel_rfl))⟩
  f26 := ⟨Tryz.f225.name, by decide, Tryz.func225.trans (congrArg some (by kernel_rfl))⟩
  f27 := ⟨Tryz.f226.name, by decide, Tryz.func226.trans (congrArg some (by kernel_rfl))⟩
  f28 := ⟨Tryz.f227.name, by decide, Tryz.func227.trans (congrArg some (by kernel_rfl))⟩
  f29 := ⟨Tryz.f228.name, by decide, Tryz.func228.trans (congrArg some (by kernel_rfl))⟩
  f31 := Tryz.func216.trans (congrArg some (by kernel_rfl))
  f32 := Tryz.func217.trans (congrArg some (by kernel_rfl))
  f36 := ⟨Tryz.f236.name, by decide, Tryz.func236.trans (congrArg some (by kernel_rfl))⟩
  f37 := ⟨Tryz.f237.name, by decide, Tryz.func237.trans (congrArg some (by kernel_rfl))⟩
  f38 := ⟨Tryz.f238.name, by decide, Tryz.func238.trans (congrArg some (by kernel_rfl))⟩
  f39 := ⟨Tryz.f239.name, by decide, Tryz.func239.trans (congrArg some (by kernel_rfl))⟩
  f41 := ⟨Tryz.f244.name, by decide, Tryz.func244.trans (congrArg some (by kernel_rfl))⟩
  t0 := Tryz.underlying0
  a0 := Tryz.isAgg0
  z0 := Tryz.sizeOf0
  v0 := Tryz.zeroValue0
  t3 := Tryz.underlying3
  a3 := Tryz.isAgg3
  z3 := Tryz.sizeOf3
  v3 := Tryz.zeroValue3
  t4 := Tryz.underlying4
  a4 := Tryz.isAgg4
  z4 := Tryz.sizeOf4
  v4 := Tryz.zeroValue4
  t5 := Tryz.underlying5
  a5 := Tryz.isAgg5
  z5 := Tryz.sizeOf5
  v5 := Tryz.zeroValue5
  t9 := Tryz.underlying9
  a9 := Tryz.isAgg9
  z9 := Tryz.sizeOf9
  v9 := Tryz.zeroValue9
  t26 := Tryz.underlying67
  a26 := Tryz.isAgg67
  z26 := Tryz.sizeOf67
  v26 := Tryz.zeroValue67
  t27 := Tryz.underlying67
  a27 := Tryz.isAgg67
  z27 := Tryz.sizeOf67
  v27 := Tryz.zeroValue67
  t29 := Tryz.underlying9
  a29 := Tryz.isAgg9
  z29 := Tryz.sizeOf9
  v29 := Tryz.zeroValue9
  t32 := Tryz.underlying204
  a32 := Tryz.isAgg204
  z32 := Tryz.sizeOf204
  v32 := Tryz.zeroValue204
  t35 := Tryz.underlying217
  a35 := Tryz.isAgg217
  z35 := Tryz.sizeOf217
  v35 := Tryz.zeroValue217
  t36 := Tryz.underlying218
  a36 := Tryz.isAgg218
  z36 := Tryz.sizeOf218
  v36 := Tryz.zeroValue218
  t41 := Tryz.underlying172
  a41 := Tryz.isAgg172
  z41 := Tryz.sizeOf172
  v41 := Tryz.zeroValue172
  t44 := Tryz.underlying224
  a44 := Tryz.isAgg224
  z44 := Tryz.sizeOf224
  v44 := Tryz.zeroValue224
  t46 := Tryz.underlying226
  a46 := Tryz.isAgg226
  z46 := Tryz.sizeOf226
  v46 := Tryz.zeroValue226
  t53 := Tryz.underlying245
  a53 := Tryz.isAgg245
  z53 := Tryz.sizeOf245
  v53 := Tryz.zeroValue245
  t57 := Tryz.underlying249
  a57 := Tryz.isAgg249
  z57 := Tryz.sizeOf249
  v57 := Tryz.zeroValue249
  t63 := Tryz.underlying260
  a63 := Tryz.isAgg260
  z63 := Tryz.sizeOf260
  v63 := Tryz.zeroValue260
  t64 := Tryz.underlying261
  a64 := Tryz.isAgg261
  z64 := Tryz.sizeOf261
  v64 := Tryz.zeroValue261 }

theorem sortsL (m : Nat) : AnyZ.SortsIn Tryz.prog sortedL_ren Fence.wide m :=
  ⟨fun blk off cap ss W hH hblk hsz => callsIn_wide.2 (AnyM.slices_Sort_string sortL blk off cap ss W hH hblk hsz),
   fun p cap W => callsIn_wide.2 (AnyM.slices_Sort_string_none sortL p cap W)⟩

theorem keysOf_any (mb : Option Nat) (W : World) : Calls Tryz.prog 155 #[.map mb] W fun e w' => e = .returned (.func (.func 180) #[] #[.pointer (some ⟨W.heap.size, 0, none⟩)]) ∧ w' = W.alloc (.cells #[.map mb] 171) :=
  (callsIn_wide (n := 5)).1 (AnyZ.keys_in keysL Fence.wide 5 trivial rfl mb W)

set_option maxHeartbeats 1000000 in
theorem sortedKeys_any {H : Type} (b nn : Nat) (D0 : DataW H) (R : Value → Option (DataW H × List MemPlace)) (w : World) (hown : w.ownsMap Tryz.prog 9 R b nn D0) (hmax : Maps.size D0 ≤ maxLen) (hbytes : Maps.size D0 * 16 ≤ 140737488355328) :
    Calls Tryz.prog 154 #[.func (.func 180) #[] #[.pointer (some ⟨w.heap.size, 0, none⟩)]] (w.alloc (.cells #[.map (some b)] 171)) fun e w' => ∃ (v : Value) (ss : List (List UInt8)), e = .returned v ∧ ss.Perm (strKeys D0) ∧
      w'.ownsRow (w.alloc (.cells #[.map (some b)] 171)).heap.size 9 1 v ss.length ((ss.mergeSort (fun x y => decide (x ≤ y))).map encStr) ∧ (v = .slice none 0 0 ↔ ss = []) ∧ Below (w.alloc (.cells #[.map (some b)] 171)).heap.size (w.alloc (.cells #[.map (some b)] 171)) w' := by
  have hbl := hown.lt
  have hseq : SeqGives Fence.wide 2 Tryz.prog 180 #[.pointer (some ⟨w.heap.size, 0, none⟩)] encStr (fun ss => ss.Perm (strKeys D0)) (Maps.size D0) (w.alloc (.cells #[.map (some b)] 171)) :=
    AnyZ.keys_gives (ρ := keysL_ren) { keysL with } Fence.wide _ trivial rfl (by omega) w.heap.size b nn D0 _ (by simp) (by simp) (by
      obtain ⟨es, clock, hb, Ft, hs, hD⟩ := hown
      exact ⟨es, clock, (Below.heap_alloc _ _ b hbl).trans hb, Ft, hs, hD⟩)
  exact (callsIn_wide (n := 5)).1 (AnyZ.sorted_in sortedL Fence.wide 5 trivial trivial trivial trivial rfl (by omega) (sortsL _) (enters_of Tryz.func179 (by kernel_rfl) rfl) 180 #[.pointer (some ⟨w.heap.size, 0, none⟩)] trivial (enters_of Tryz.func180 (by kernel_rfl) rfl) _ _ hmax hbytes _ hseq)

end Go.Proofs.YtlpnfbpgnfappaaGreat

/- The walk from one on, as data: what has been met, and what is still to be gone on from. -/
namespace Go.Proofs.YtlpnfbpgnfappaaGreat
open Go.RowKit Go.PlainAid

/-- One comes right behind another one, in a row of modules. -/
def Next (nx : Mod → Mod → Bool) (Ms : List Mod) (i k : Nat) : Prop := ∃ x y, Ms[i]? = some x ∧ Ms[k]? = some y ∧ nx x y = true
theorem Next.lt {nx : Mod → Mod → Bool} {Ms : List Mod} {i k : Nat} (h : Next nx Ms i k) : i < Ms.length ∧ k < Ms.length := by
  obtain ⟨x, y, h1, h2, _⟩ := h
  exact ⟨(List.getElem?_eq_some_iff.1 h1).1, (List.getElem?_eq_some_iff.1 h2).1⟩
theorem Next.iff {nx : Mod → Mod → Bool} {Ms : List Mod} {i k : Nat} {x y : Mod} (hx : Ms[i]? = some x) (hy : Ms[k]? = some y) : Next nx Ms i k ↔ nx x y = true := by
  constructor
  · rintro ⟨x', y', h1, h2, h3⟩
    rw [hx] at h1
    rw [hy] at h2
    injection h1 with h1
    injection h2 with h2
    subst h1 h2
    exact h3
  · exact fun h => ⟨x, y, hx, hy, h⟩

structure Come (E : Nat → Nat → Prop) (n f : Nat) (met work : List Nat) : Prop where
  nodup : met.Nodup
  lt : ∀ k ∈ met, k < n
  via : ∀ k ∈ met, Via E f k
  wk : ∀ k ∈ work, k = f ∨ k ∈ met
  done : ∀ j, j = f ∨ j ∈ met → j ∈ work ∨ ∀ k, E j k → k ∈ met
structure ComeIn (E : Nat → Nat → Prop) (n f j i : Nat) (met work : List Nat) : Prop where
  nodup : met.Nodup
  lt : ∀ k ∈ met, k < n
  via : ∀ k ∈ met, Via E f k
  wk : ∀ k ∈ work, k = f ∨ k ∈ met
  here : j = f ∨ j ∈ met
  done : ∀ j', j' = f ∨ j' ∈ met → j' ∈ work ∨ j' = j ∨ ∀ k, E j' k → k ∈ met
  part : ∀ k, k < i → E j k → k ∈ met
theorem Come.start (E : Nat → Nat → Prop) (n f : Nat) : Come E n f [] [f] :=
  ⟨by simp, by simp, by simp, by simp, fun j hj => by
    rcases hj with rfl | hj
    · exact .inl (by simp)
    · simp at hj⟩
theorem Come.pop {E : Nat → Nat → Prop} {n f j : Nat} {met work : List Nat} (h : Come E n f met (j :: work)) : ComeIn E n f j 0 met work :=
  ⟨h.nodup, h.lt, h.via, fun k hk => h.wk k (by simp [hk]), h.wk j (by simp), fun j' hj => by
    rcases h.done j' hj with h1 | h1
    · rcases List.mem_cons.1 h1 with h2 | h2
      · exact .inr (.inl h2)
      · exact .inl h2
    · exact .inr (.inr h1), fun k hk => by omega⟩
theorem ComeIn.skip {E : Nat → Nat → Prop} {n f j i : Nat} {met work : List Nat} (h : ComeIn E n f j i met work) (hi : i ∈ met ∨ ¬ E j i) : ComeIn E n f j (i + 1) met work :=
  ⟨h.nodup, h.lt, h.via, h.wk, h.here, h.done, fun k hk he => by
    by_cases hki : k = i
    · subst hki
      rcases hi with hi | hi
      · exact hi
      · exact absurd he hi
    · exact h.part k (by omega) he⟩
theorem ComeIn.add {E : Nat → Nat → Prop} {n f j i : Nat} {met work : List Nat} (h : ComeIn E n f j i met work) (hm : i ∉ met) (hi : i < n) (he : E j i) : ComeIn E n f j (i + 1) (met ++ [i]) (work ++ [i]) := by
  have hv : Via E f i := by
    rcases h.here with rfl | hj
    · exact .one he
    · exact (h.via j hj).more he
  refine ⟨?_, ?_, ?_, ?_, ?_, ?_, ?_⟩
  · rw [List.nodup_append]
    exact ⟨h.nodup, by simp, fun a ha b hb => by rw [List.mem_singleton.1 hb]; exact fun e => hm (e ▸ ha)⟩
  · intro k hk
    rcases List.mem_append.1 hk with hk | hk
    · exact h.lt k hk
    · rw [List.mem_singleton.1 hk]; exact hi
  · intro k hk
    rcases List.mem_append.1 hk with hk | hk
    · exact h.via k hk
    · rw [List.mem_singleton.1 hk]; exact hv
  · intro k hk
    rcases List.mem_append.1 hk with hk | hk
    · rcases h.wk k hk with h1 | h1
      · exact .inl h1
      · exact .inr (by simp [h1])
    · exact .inr (by simp [List.mem_singleton.1 hk])
  · rcases h.here with h1 | h1
    · exact .inl h1
    · exact .inr (by simp [h1])
  · intro j' hj
    by_cases hji : j' = i
    · exact .inl (by simp [hji])
    · have hj2 : j' = f ∨ j' ∈ met := by
        rcases hj with h1 | h1
        · exact .inl h1
        · rcases List.mem_append.1 h1 with h1 | h1
          · exact .inr h1
          · exact absurd (List.mem_singleton.1 h1) hji
      rcases h.done j' hj2 with h1 | h1 | h1
      · exact .inl (by simp [h1])
      · exact .inr (.inl h1)
      · exact .inr (.inr fun k hk => by simp [h1 k hk])
  · intro k hk he'
    by_cases hki : k = i
    · simp [hki]
    · have := h.part k (by omega) he'
      simp [this]
theorem ComeIn.fin {E : Nat → Nat → Prop} {n f j : Nat} {met work : List Nat} (h : ComeIn E n f j n met work) (hE : ∀ k, E j k → k < n) : Come E n f met work :=
  ⟨h.nodup, h.lt, h.via, h.wk, fun j' hj => by
    rcases h.done j' hj with h1 | h1 | h1
    · exact .inl h1
    · exact .inr fun k hk => by subst h1; exact h.part k (hE k hk) hk
    · exact .inr h1⟩
theorem Come.all {E : Nat → Nat → Prop} {n f : Nat} {met : List Nat} (h : Come E n f met []) (k : Nat) : k ∈ met ↔ Via E f k := by
  constructor
  · exact h.via k
  · intro hv
    have hc : ∀ j, j = f ∨ j ∈ met → ∀ k, E j k → k ∈ met := fun j hj => by
      rcases h.done j hj with h1 | h1
      · simp at h1
      · exact h1
    exact Via.closed (S := fun k => k ∈ met) (hc f (.inl rfl)) (fun j k hj he => hc j (.inr hj) k he) hv
theorem nodup_lt : ∀ {n : Nat} {l : List Nat}, l.Nodup → (∀ k ∈ l, k < n) → l.length ≤ n
  | 0, l, _, h2 => by
    cases l with
    | nil => simp
    | cons x l => exact absurd (h2 x (by simp)) (by omega)
  | n + 1, l, h1, h2 => by
    by_cases hn : n ∈ l
    · have h3 := nodup_lt (n := n) (l := l.erase n) (h1.erase n) (fun k hk => by
        have := (h1.mem_erase_iff).1 hk
        have h4 := h2 k this.2
        omega)
      rw [List.length_erase_of_mem hn] at h3
      omega
    · have h3 := nodup_lt (n := n) (l := l) h1 (fun k hk => by
        have h4 := h2 k hk
        have : k ≠ n := fun e => hn (e ▸ hk)
        omega)
      omega
theorem Come.le {E : Nat → Nat → Prop} {n f : Nat} {met work : List Nat} (h : Come E n f met work) : met.length ≤ n := nodup_lt h.nodup h.lt
theorem ComeIn.le {E : Nat → Nat → Prop} {n f j i : Nat} {met work : List Nat} (h : ComeIn E n f j i met work) : met.length ≤ n := nodup_lt h.nodup h.lt

/-- Names, rising. -/
def nameAt (Ms : List Mod) (i : Nat) : ByteArray := match Ms[i]? with | some x => x.name | none => ⟨#[]⟩
theorem nameAt_some {Ms : List Mod} {i : Nat} {x : Mod} (h : Ms[i]? = some x) : nameAt Ms i = x.name := by unfold nameAt; rw [h]
theorem nameAt_inj {Ms : List Mod} (hd : (Ms.map (·.name)).Nodup) {i k : Nat} (hi : i < Ms.length) (hk : k < Ms.length) (h : nameAt Ms i = nameAt Ms k) : i = k := by
  rw [nameAt_some (List.getElem?_eq_getElem hi), nameAt_some (List.getElem?_eq_getElem hk)] at h
  have h1 : (Ms.map (·.name))[i]? = some Ms[i].name := by rw [List.getElem?_map, List.getElem?_eq_getElem hi]; rfl
  have h2 : (Ms.map (·.name))[k]? = some Ms[k].name := by rw [List.getElem?_map, List.getElem?_eq_getElem hk]; rfl
  rw [← h] at h2
  exact (List.getElem?_inj (by simpa using hi) hd).1 (h1.trans h2.symm)
theorem any_name {Ms : List Mod} (hd : (Ms.map (·.name)).Nodup) {met : List Nat} (hm : ∀ k ∈ met, k < Ms.length) {i : Nat} (hi : i < Ms.length) : ((met.map (nameAt Ms)).any fun y => y == nameAt Ms i) = true ↔ i ∈ met := by
  rw [any_mem]
  constructor
  · intro h
    obtain ⟨k, hk, he⟩ := List.mem_map.1 h
    rw [← nameAt_inj hd (hm k hk) hi he]
    exact hk
  · exact fun h => List.mem_map_of_mem h

end Go.Proofs.YtlpnfbpgnfappaaGreat

/- Orders: what stands in them, when there is none, and what is left without one that nobody asks. -/
namespace Go.Proofs.YtlpnfbpgnfappaaGreat
open Go.RowKit Go.PlainAid

/-- One asks another one. -/
def nxNeed (a o : Mod) : Bool := asksM a o.name
/-- One is asked by another one. -/
def nxUse (a o : Mod) : Bool := asksM o a.name
theorem Via.lt_of {nx : Mod → Mod → Bool} {Ms : List Mod} {i k : Nat} (h : Via (Next nx Ms) i k) : i < Ms.length ∧ k < Ms.length := by
  exact h.walk (M := fun k => i < Ms.length ∧ k < Ms.length) (fun _ e => e.lt) (fun _ _ _ ih e => ⟨ih.1, e.lt.2⟩)

theorem mem_nameAt {Ms : List Mod} {i : Nat} (h : i < Ms.length) : ∃ m ∈ Ms, Ms[i]? = some m ∧ nameAt Ms i = m.name :=
  ⟨Ms[i], List.getElem_mem h, List.getElem?_eq_getElem h, nameAt_some (List.getElem?_eq_getElem h)⟩
theorem nameAt_mem {Ms : List Mod} {m : Mod} (h : m ∈ Ms) : ∃ i, i < Ms.length ∧ Ms[i]? = some m ∧ nameAt Ms i = m.name := by
  obtain ⟨i, hi⟩ := List.getElem?_of_mem h
  exact ⟨i, (List.getElem?_eq_some_iff.1 hi).1, hi, nameAt_some hi⟩

section
variable {Rs Ms : List Mod} (hp : Rs.Perm Ms)
include hp

/-- What stands ahead is closed under asking. -/
theorem Stands.via {c : List ByteArray} (h : Stands Rs c) (hd : (Ms.map (·.name)).Nodup) {f k : Nat} (hv : Via (Next nxNeed Ms) f k) : ∀ j, c[j]? = some (nameAt Ms f) → nameAt Ms k ∈ c.take j := by
  have step : ∀ a b j, Next nxNeed Ms a b → c[j]? = some (nameAt Ms a) → nameAt Ms b ∈ c.take j := by
    intro a b j hab hj
    obtain ⟨x, y, hx, hy, hxy⟩ := hab
    obtain ⟨m, hm, hmx, _, hall⟩ := h.at j _ hj
    rw [nameAt_some hx] at hmx
    have e : m = x := nodup_names hd (hp.mem_iff.1 hm) (List.mem_of_getElem? hx) hmx
    subst e
    rw [nameAt_some hy]
    exact hall y (hp.mem_iff.2 (List.mem_of_getElem? hy)) hxy
  refine hv.walk (M := fun k => ∀ j, c[j]? = some (nameAt Ms f) → nameAt Ms k ∈ c.take j) (fun _ e j hj => step _ _ j e hj) (fun _ _ _ ih e => ?_)
  · intro j hj
    have h1 := ih j hj
    obtain ⟨i, hi, he⟩ := List.mem_take_iff_getElem.1 h1
    have hi2 : i < c.length := by omega
    have h2 := step _ _ i e (by rw [List.getElem?_eq_getElem hi2, he])
    exact List.mem_of_mem_take (i := i) (by
      rw [List.take_take, show min i j = i by omega]
      exact h2)

theorem Stands.noRound {c : List ByteArray} (h : Stands Rs c) (hd : (Ms.map (·.name)).Nodup) (hl : c.length = Ms.length) (i : Nat) : ¬ Via (Next nxNeed Ms) i i := by
  intro hv
  have hil := hv.lt_of.1
  have hall : ∀ x ∈ Ms.map (·.name), x ∈ c := full_mem h.nodup (fun x hx => by
    obtain ⟨m, hm, rfl⟩ := h.names x hx
    exact List.mem_map_of_mem (hp.mem_iff.1 hm)) (by simp; omega)
  obtain ⟨m, hm, hmi, hmn⟩ := mem_nameAt hil
  obtain ⟨j, hj⟩ := List.getElem?_of_mem (hall m.name (List.mem_map_of_mem hm))
  rw [← hmn] at hj
  have h1 := h.via hp hd hv j hj
  obtain ⟨_, _, _, h2, _⟩ := h.at j _ hj
  exact h2 h1

theorem order_round (hd : (Ms.map (·.name)).Nodup) (h : orderFrom Rs Rs.length [] = none) : ∃ i, Via (Next nxNeed Ms) i i := by
  obtain ⟨met, hs, hlen, hno⟩ := order_none .nil h
  simp at hlen
  have hne : (List.range Ms.length).filter (fun i => @decide (nameAt Ms i ∉ met) (Classical.propDecidable _)) ≠ [] := by
    intro he
    have hsub : ∀ x ∈ Ms.map (·.name), x ∈ met := by
      intro x hx
      obtain ⟨m, hm, rfl⟩ := List.mem_map.1 hx
      obtain ⟨i, hi, _, hn⟩ := nameAt_mem hm
      refine Classical.byContradiction fun hn2 => ?_
      have : i ∈ (List.range Ms.length).filter (fun i => @decide (nameAt Ms i ∉ met) (Classical.propDecidable _)) := by
        rw [List.mem_filter, @decide_eq_true_iff _ (Classical.propDecidable _), hn]
        exact ⟨List.mem_range.2 hi, hn2⟩
      rw [he] at this
      simp at this
    have := List.Nodup.length_le_of_subset hd hsub
    rw [List.length_map, ← hp.length_eq] at this
    omega
  obtain ⟨i, _, hi⟩ := comes_back (E := Next nxNeed Ms) _ _ (Nat.le_refl _) hne (fun i hi => by
    rw [List.mem_filter, @decide_eq_true_iff _ (Classical.propDecidable _)] at hi
    obtain ⟨m, hm, hmi, hmn⟩ := mem_nameAt (List.mem_range.1 hi.1)
    have hw : m.name ∉ met := by rw [← hmn]; exact hi.2
    have hnm := hno m (hp.mem_iff.2 hm)
    have : ∃ o ∈ Rs, asksM m o.name = true ∧ o.name ∉ met := by
      refine Classical.byContradiction fun hn => ?_
      have : mayB Rs met m = true := may_iff.2 ⟨hw, fun o ho ha => Classical.byContradiction fun h => hn ⟨o, ho, ha, h⟩⟩
      rw [hnm] at this
      cases this
    obtain ⟨o, ho, ha, hw2⟩ := this
    obtain ⟨k, hk, hko, hkn⟩ := nameAt_mem (hp.mem_iff.1 ho)
    refine ⟨k, ?_, m, o, hmi, hko, ha⟩
    rw [List.mem_filter, @decide_eq_true_iff _ (Classical.propDecidable _), hkn]
    exact ⟨List.mem_range.2 hk, hw2⟩)
  exact ⟨i, hi⟩
end

end Go.Proofs.YtlpnfbpgnfappaaGreat

/- Sorted names in memory. -/
namespace Go.Proofs.YtlpnfbpgnfappaaGreat
open Go.RowKit Go.PlainAid Go.Maps

set_option maxRecDepth 100000

def strCell (x : ByteArray) (_ : Nat) : Value := .string x
def strC (x : ByteArray) : List Value := [.string x]
theorem strC_at (x : ByteArray) (i : Nat) (hi : i < 1) : (strC x)[i]? = some (strCell x i) := by
  obtain rfl : i = 0 := by omega
  rfl
theorem flat_str : ∀ l : List (List UInt8), l.map encStr = (l.map fun x => (⟨x.toArray⟩ : ByteArray)).flatMap strC
  | [] => rfl
  | x :: l => by rw [List.map_cons, List.map_cons, List.flatMap_cons, ← flat_str l]; rfl

theorem merge_rising {ss : List (List UInt8)} (hn : ss.Nodup) : Rising ((ss.mergeSort leB).map fun x => (⟨x.toArray⟩ : ByteArray)) := by
  have tr : ∀ a b c : List UInt8, leB a b = true → leB b c = true → leB a c = true := fun a b c h1 h2 => by simp only [leB, decide_eq_true_eq] at *; exact List.le_trans h1 h2
  have to : ∀ a b : List UInt8, (leB a b || leB b a) = true := fun a b => by simp only [leB, Bool.or_eq_true, decide_eq_true_eq]; exact List.le_total a b
  have h1 := List.pairwise_mergeSort tr to ss
  have h2 : (ss.mergeSort leB).Nodup := (List.mergeSort_perm ss leB).nodup_iff.2 hn
  refine List.pairwise_map.2 ((h1.and h2).imp fun {a b} ⟨h3, h4⟩ => ?_)
  show a < b
  simp only [leB, decide_eq_true_eq] at h3
  exact Classical.byContradiction fun h5 => h4 (List.le_antisymm h3 (List.not_lt.1 h5))

theorem sorted_names {W W0 : World} {base b nn : Nat} {v : Value} {ss : List (List UInt8)} {D : DataW Unit} {R : Value → Option (DataW Unit × List MemPlace)} {names : List ByteArray} (hown : W0.ownsMap Tryz.prog 9 R b nn D) (hD : HasNames D names) (hn : names.Nodup) (hl : names.length ≤ 255)
    (hp : ss.Perm (strKeys D)) (hr : W.ownsRow base 9 1 v ss.length ((ss.mergeSort (fun x y => decide (x ≤ y))).map encStr)) : ∃ rs : List ByteArray, RowOf 1 strCell W.heap.size W v rs ∧ Rising rs ∧ ∀ x, x ∈ rs ↔ x ∈ names := by
  have hC : Collected D (fun _ => false) (names.map fun x => x.data.toList) := by
    refine ⟨?_, fun x => ?_⟩
    · exact List.pairwise_map.2 (hn.imp fun h e => h (bytes_ext e))
    · have h1 := hD ⟨x.toArray⟩
      have h2 : (⟨x.toArray⟩ : ByteArray).data.toList = x := by simp
      rw [h2] at h1
      rw [h1, any_mem]
      constructor
      · intro h
        obtain ⟨y, hy, rfl⟩ := List.mem_map.1 h
        exact ⟨by simpa using hy, rfl⟩
      · rintro ⟨h, _⟩
        exact List.mem_map.2 ⟨_, h, h2⟩
  have hq := hC.perm hown lawS Tryz.underlying9 (fun _ => rfl)
  have hsn : ss.Nodup := (hp.trans hq.symm).nodup_iff.2 hC.1
  have hmem : ∀ x, x ∈ ss ↔ x ∈ names.map fun x => x.data.toList := fun x => (hp.trans hq.symm).mem_iff
  have hlen : ss.length = names.length := by rw [(hp.trans hq.symm).length_eq, List.length_map]
  refine ⟨(ss.mergeSort leB).map fun x => (⟨x.toArray⟩ : ByteArray), ?_, merge_rising hsn, fun x => ?_⟩
  · have e1 : ss.length = ((ss.mergeSort leB).map fun x => (⟨x.toArray⟩ : ByteArray)).length := by rw [List.length_map, List.length_mergeSort]
    rw [flat_str] at hr
    have hr2 : W.ownsRow base 9 1 v ((ss.mergeSort leB).map fun x => (⟨x.toArray⟩ : ByteArray)).length (((ss.mergeSort leB).map fun x => (⟨x.toArray⟩ : ByteArray)).flatMap strC) := by rw [← e1]; exact hr
    exact own_rows (C := strC) (cells := strCell) (sz := 1) (fun _ => rfl) strC_at hr2 (by rw [← e1, hlen]; omega)
  · constructor
    · intro h
      obtain ⟨y, hy, rfl⟩ := List.mem_map.1 h
      have := (hmem y).1 ((List.mergeSort_perm ss leB).mem_iff.1 hy)
      obtain ⟨z, hz, rfl⟩ := List.mem_map.1 this
      simpa using hz
    · intro h
      refine List.mem_map.2 ⟨x.data.toList, ?_, by simp⟩
      exact (List.mergeSort_perm ss leB).mem_iff.2 ((hmem _).2 (List.mem_map_of_mem h))

end Go.Proofs.YtlpnfbpgnfappaaGreat
