/- Texts that are laid together. -/
import Derived.Test.YthmohjgdcjafkadGreatMrgU
import Derived.Test.YthmohjgdcjafkadGreatMrgI
import Derived.Test.YthmohjgdcjafkadGreatMrgO
import Derived.Test.YthmohjgdcjafkadGreatMrgD
import Derived.Test.YthmohjgdcjafkadGreatMrgV
import Derived.BigQuiet
import Derived.Lib.QuietBelow

/- What becomes of registries that are right, as data. -/
namespace Go.Proofs.YthmohjgdcjafkadGreat
open Go.RowKit Go.PlainAid Go.Lib

theorem rg_names {K : Ker} {L : List Plc} (h : chkRg K L = 0) : (L.map (·.mod.name)).Nodup := (chkGraph_zero.1 (rg_graph h)).2.2
theorem rg_mods {K : Ker} {L : List Plc} (h : chkRg K L = 0) : ∀ p ∈ L, chkMod p.mod = 0 := (chkGraph_zero.1 (rg_graph h)).2.1
theorem rg_reg {K : Ker} {L : List Plc} (h : chkRg K L = 0) : chkReg L = 0 := (chkLink_zero (chkRg_zero h).1).2.1
/-- Where names are there once, each is found where it is. -/
theorem ix_name : ∀ {L : List Plc} (k : Nat), (L.map (·.mod.name)).Nodup → ∀ {j : Nat} {p : Plc}, L[j]? = some p → ixFrom (fun q : Plc => q.mod.name == p.mod.name) k L = ((k + j : Nat) : Int)
  | [], _, _, j, p, h => by simp at h
  | q :: r, k, hd, j, p, h => by
    have hs : ixFrom (fun q : Plc => q.mod.name == p.mod.name) k (q :: r) = if (q.mod.name == p.mod.name) = true then (k : Int) else ixFrom (fun q : Plc => q.mod.name == p.mod.name) (k + 1) r := rfl
    rw [hs]
    rw [List.map_cons, List.nodup_cons] at hd
    cases j with
    | zero =>
      obtain rfl : q = p := by simpa using h
      rw [if_pos ((Go.MapKept.bytes_beq _ _).2 rfl)]
      rfl
    | succ j =>
      have h' : r[j]? = some p := by simpa using h
      rw [if_neg (fun e => hd.1 (by
        rw [(Go.MapKept.bytes_beq _ _).1 e]
        exact List.mem_map_of_mem (List.mem_of_getElem? h'))), ix_name (k + 1) hd.2 h']
      congr 1; omega
theorem ix_mem {L : List Plc} (hd : (L.map (·.mod.name)).Nodup) {p : Plc} (hp : p ∈ L) : ∃ j : Nat, L[j]? = some p ∧ ixFrom (fun q : Plc => q.mod.name == p.mod.name) 0 L = (j : Int) := by
  obtain ⟨j, hj⟩ := List.mem_iff_getElem?.1 hp
  exact ⟨j, hj, by rw [ix_name 0 hd hj, Nat.zero_add]⟩
theorem ix_pv {l : List PV} (hd : ((l.map PV.plc).map (·.mod.name)).Nodup) {p : Plc} (hp : p ∈ l.map PV.plc) : ∃ (j : Nat) (x : PV), l[j]? = some x ∧ x.plc = p ∧ ixFrom (fun z : PV => z.mod.name == p.mod.name) 0 l = (j : Int) := by
  obtain ⟨j, h1, h2⟩ := ix_mem hd hp
  rw [ix_map] at h2
  rw [List.getElem?_map] at h1
  cases hx : l[j]? with
  | none => rw [hx] at h1; cases h1
  | some x =>
    rw [hx] at h1
    exact ⟨j, x, hx, by simpa using h1, h2⟩
/-- None lies in the way of another one. -/
theorem ok_apart : ∀ {L : List Plc} {e : Int} {j : Nat} {p : Plc}, okPl e L → L[j]? = some p → ∀ q ∈ L.eraseIdx j, q.first + szM q.mod ≤ p.first ∨ p.first + szM p.mod ≤ q.first
  | [], _, j, p, _, h => by simp at h
  | x :: r, e, 0, p, ho, h => by
    obtain ⟨h1, h2, h3, h4⟩ := ho
    obtain rfl : x = p := by simpa using h
    intro q hq
    exact .inr (okPl_first h4 q hq).1
  | x :: r, e, j + 1, p, ho, h => by
    obtain ⟨h1, h2, h3, h4⟩ := ho
    have h' : r[j]? = some p := by simpa using h
    intro q hq
    rw [List.eraseIdx_cons_succ] at hq
    rcases List.mem_cons.1 hq with rfl | hq
    · exact .inl (okPl_first h4 p (List.mem_of_getElem? h')).1
    · exact ok_apart h4 h' q hq
/-- The document's way to tell whether there is room where another one was. -/
theorem room_doc {L : List Plc} {j : Nat} {p : Plc} {many : Int} (h0 : chkReg L = 0) (hp : L[j]? = some p) (hm : 1 ≤ many) :
    ((runsFrom 0 (L.eraseIdx j)).any fun r => decide (r.1 ≤ p.first) && decide (p.first + many ≤ r.1 + r.2)) = true ↔ (p.first + many ≤ 16 ∧ ∀ q ∈ L.eraseIdx j, ¬ (p.first < q.first ∧ q.first < p.first + many)) := by
  have ho := (chkReg_zero.1 h0).2.2
  have hf := okPl_first ho p (List.mem_of_getElem? hp)
  refine room_runs hm (ok_less j ho) hf.1 (fun q hq => ?_)
  rcases ok_apart ho hp q hq with g | g
  · exact .inl g
  · exact .inr (by omega)
/-- What is no greater finds room where it was. -/
theorem room_same {L : List Plc} {j : Nat} {p : Plc} {many : Nat} (h0 : chkReg L = 0) (hp : L[j]? = some p) (hm : 1 ≤ many) (hs : many ≤ szM p.mod) : roomOf (L.eraseIdx j) p.first many = some p.first := by
  have ho := (chkReg_zero.1 h0).2.2
  have hf := okPl_first ho p (List.mem_of_getElem? hp)
  unfold roomOf
  rw [if_pos]
  refine (room_doc h0 hp (by omega)).2 ⟨by omega, fun q hq => ?_⟩
  rcases ok_apart ho hp q hq with g | g
  · have := (okPl_first (ok_less j ho) q hq).2.1
    omega
  · omega
theorem any_name_false {L : List Plc} {n : ByteArray} (h : (L.any fun p => p.mod.name == n) = false) : ∀ p ∈ L, p.mod.name ≠ n := fun p hp e => by
  rw [List.any_eq_false] at h
  exact h p hp ((Go.MapKept.bytes_beq _ _).2 e)
/-- What Install does, if it does. -/
theorem inst_ok {K : Ker} {L : List Plc} {M : Mod} (h : (planRes K L (instDo L M)).2 = 0) : chkRg K L = 0 ∧ chkMod M = 0 ∧ (∀ p ∈ L, p.mod.name ≠ M.name) ∧ L.length < 8 ∧ ∃ f, firstRes L (szM M) = (f, 0) ∧ instDo L M = (putAt L ⟨M, f⟩, 0) ∧ chkRg K (putAt L ⟨M, f⟩) = 0 ∧ planRes K L (instDo L M) = ((K, putAt L ⟨M, f⟩), 0) := by
  rcases plan_cases K L (instDo L M) with ⟨h1, e⟩ | ⟨_, h1, e⟩ | ⟨_, _, h1, e⟩ | ⟨h1, h2, h3, e⟩
  · rw [e] at h; exact absurd h h1
  · rw [e] at h; exact absurd h h1
  · rw [e] at h; exact absurd h h1
  · have hd : ∀ D, D = instDo L M → D.2 = 0 → chkMod M = 0 ∧ (L.any fun p => p.mod.name == M.name) = false ∧ L.length < 8 ∧ ∃ r, fitOf (szM M) (runsFrom 0 L) = some r ∧ D = (putAt L ⟨M, r.1⟩, 0) := by
      intro D hD hz
      unfold instDo at hD
      by_cases c1 : chkMod M = 0
      · rw [if_neg (by omega)] at hD
        cases c2 : (L.any fun p => p.mod.name == M.name) with
        | true => rw [c2, if_pos rfl] at hD; subst hD; cases hz
        | false =>
          rw [c2, if_neg (by decide)] at hD
          by_cases c3 : 8 ≤ L.length
          · rw [if_pos c3] at hD; subst hD; cases hz
          · rw [if_neg c3] at hD
            cases c4 : fitOf (szM M) (runsFrom 0 L) with
            | none => rw [c4] at hD; subst hD; cases hz
            | some r => rw [c4] at hD; exact ⟨c1, rfl, by omega, r, rfl, hD⟩
      · rw [if_pos c1] at hD; subst hD; exact absurd hz c1
    obtain ⟨c1, c2, c3, r, c4, c5⟩ := hd _ rfl h2
    have hs := szM_bd c1
    refine ⟨h1, c1, any_name_false c2, c3, r.1, ?_, c5, by rw [c5] at h3; exact h3, by rw [e, c5]⟩
    unfold firstRes
    rw [if_neg (by rw [rg_reg h1]; simp), if_neg (by omega), c4]
theorem rem_ok {K : Ker} {L : List Plc} {name : ByteArray} (h : (planRes K L (remDo L name)).2 = 0) : chkRg K L = 0 ∧ ∃ (j : Nat) (p : Plc), nameIx L name = (j : Int) ∧ L[j]? = some p ∧ p.mod.name = name ∧ (∀ p ∈ L, asksM p.mod name = false) ∧ remDo L name = (L.eraseIdx j, 0) ∧ chkRg K (L.eraseIdx j) = 0 ∧ planRes K L (remDo L name) = ((K, L.eraseIdx j), 0) := by
  rcases plan_cases K L (remDo L name) with ⟨h1, e⟩ | ⟨_, h1, e⟩ | ⟨_, _, h1, e⟩ | ⟨h1, h2, h3, e⟩
  · rw [e] at h; exact absurd h h1
  · rw [e] at h; exact absurd h h1
  · rw [e] at h; exact absurd h h1
  · rcases ix_spec (fun p : Plc => p.mod.name == name) L 0 with ⟨g1, _⟩ | ⟨j, p, g1, g2, g3, _⟩
    · rw [remDo_none g1] at h2; cases h2
    · rw [Nat.zero_add] at g1
      have hr := remDo_at (L := L) (name := name) g1
      unfold remAt at hr
      cases ha : (L.any fun p => asksM p.mod name) with
      | true => rw [ha, if_pos rfl] at hr; rw [hr] at h2; cases h2
      | false =>
        rw [ha, if_neg (by decide)] at hr
        refine ⟨h1, j, p, g1, g2, (Go.MapKept.bytes_beq _ _).1 g3, fun q hq => ?_, hr, by rw [hr] at h3; exact h3, by rw [e, hr]⟩
        rw [List.any_eq_false] at ha
        simpa using ha q hq
theorem up_ok {K : Ker} {L : List Plc} {M : Mod} (h : (planRes K L (upDo L M)).2 = 0) : chkRg K L = 0 ∧ chkMod M = 0 ∧ ∃ (j : Nat) (p : Plc) (f : Int), nameIx L M.name = (j : Int) ∧ L[j]? = some p ∧ p.mod.name = M.name ∧ roomOf (L.eraseIdx j) p.first (szM M) = some f ∧ upDo L M = (putAt (L.eraseIdx j) ⟨M, f⟩, 0) ∧ chkRg K (putAt (L.eraseIdx j) ⟨M, f⟩) = 0 ∧ planRes K L (upDo L M) = ((K, putAt (L.eraseIdx j) ⟨M, f⟩), 0) := by
  rcases plan_cases K L (upDo L M) with ⟨h1, e⟩ | ⟨_, h1, e⟩ | ⟨_, _, h1, e⟩ | ⟨h1, h2, h3, e⟩
  · rw [e] at h; exact absurd h h1
  · rw [e] at h; exact absurd h h1
  · rw [e] at h; exact absurd h h1
  · by_cases c1 : chkMod M = 0
    · rcases ix_spec (fun p : Plc => p.mod.name == M.name) L 0 with ⟨g1, _⟩ | ⟨j, p, g1, g2, g3, _⟩
      · rw [upDo_none c1 g1] at h2; cases h2
      · rw [Nat.zero_add] at g1
        have hr := upDo_at (L := L) c1 g1 g2
        cases hf : roomOf (L.eraseIdx j) p.first (szM M) with
        | none => rw [hr, hf] at h2; cases h2
        | some f =>
          rw [hf] at hr
          have hr' : upDo L M = (putAt (L.eraseIdx j) ⟨M, f⟩, 0) := hr
          exact ⟨h1, c1, j, p, f, g1, g2, (Go.MapKept.bytes_beq _ _).1 g3, hf, hr', by rw [hr'] at h3; exact h3, by rw [e, hr']⟩
    · rw [upDo_bad c1] at h2; exact absurd h2 c1

end Go.Proofs.YthmohjgdcjafkadGreat

/- The contracts of the document's CheckKernel, CheckModules, exportAt, PlaceOf. -/
namespace Go.Proofs.YthmohjgdcjafkadGreat
open Go.RowKit Go.PlainAid

set_option maxRecDepth 100000

set_option maxHeartbeats 1000000 in
theorem checkKernel_any (K : Ker) (v : Value) (w : World) (hK : IsKer w.heap.size w v K) (hf : K.fits) :
    Calls Tryz.prog 38 #[v] w fun e w' => e = .returned (.int .i64 (chkKer K)) ∧ Below w.heap.size w w' := by
  obtain ⟨ve, rfl, hE⟩ := hK
  have HE : Hid (∀ w', Below w.heap.size w w' → K.exps.length ≤ 8 → Calls Tryz.prog 82 #[ve, .int .i64 4096] w' fun e w'' => e = .returned (.int .i64 (chkExps 4096 [] K.exps)) ∧ Below w'.heap.size w' w'') :=
    fun w' hb hl => checkExports_any K.exps ve _ w' ((hE.below hb).more hb.size) hf hl (by decide) (by decide)
  obtain ⟨pe, ke, rfl, _, hE⟩ := hE
  clear hE hf
  have key : (betw K.major 0 255 = false ∧ chkKer K = 3) ∨ (betw K.major 0 255 = true ∧ betw K.minor 0 255 = false ∧ chkKer K = 3) ∨ (betw K.major 0 255 = true ∧ betw K.minor 0 255 = true ∧ 8 < K.exps.length ∧ chkKer K = 2) ∨ (betw K.major 0 255 = true ∧ betw K.minor 0 255 = true ∧ K.exps.length ≤ 8 ∧ chkKer K = chkExps 4096 [] K.exps) := by
    unfold chkKer isVer
    cases h1 : betw K.major 0 255
    · exact .inl ⟨rfl, rfl⟩
    cases h2 : betw K.minor 0 255
    · exact .inr (.inl ⟨rfl, rfl, rfl⟩)
    · by_cases h3 : 8 < K.exps.length
      · exact .inr (.inr (.inl ⟨rfl, rfl, h3, by rw [if_neg (by decide), if_pos h3]⟩))
      · exact .inr (.inr (.inr ⟨rfl, rfl, by omega, by rw [if_neg (by decide), if_neg h3]⟩))
  generalize chkKer K = R at *
  generalize chkExps 4096 [] K.exps = ce at *
  obtain ⟨ma, mi, es⟩ := K
  dsimp only at *
  generalize es.length = le at *
  have HW1 : Hid (Below w.heap.size w (w.alloc (.cells #[.int .i64 ma, .int .i64 mi, .slice pe le ke] 24))) := (Below.refl _ _).alloc (Nat.le_refl _) _
  rcases key with ⟨h1, rfl⟩ | ⟨h1, h2, rfl⟩ | ⟨h1, h2, h3, rfl⟩ | ⟨h1, h2, h3, rfl⟩
  · go_enter Tryz.func38, Tryz.ntmps38
    go_wp2_with (go_at_call 81; refine (between_any _ _ _ _).mono ?_; rintro e w' ⟨rfl, rfl⟩)
    go_ret
    exact ⟨rfl, HW1.out⟩
  · go_enter Tryz.func38, Tryz.ntmps38
    go_wp2_with (go_at_call 81; refine (between_any _ _ _ _).mono ?_; rintro e w' ⟨rfl, rfl⟩)
    go_ret
    exact ⟨rfl, HW1.out⟩
  · have h3' : (8 : Int) < le := by omega
    go_enter Tryz.func38, Tryz.ntmps38
    go_wp2_with (go_at_call 81; refine (between_any _ _ _ _).mono ?_; rintro e w' ⟨rfl, rfl⟩)
    go_ret
    exact ⟨rfl, HW1.out⟩
  · have h3' : decide ((8 : Int) < le) = false := decide_eq_false (by omega)
    have h3'' : decide (8 < le) = false := decide_eq_false (by omega)
    go_enter Tryz.func38, Tryz.ntmps38
    go_wp2_with (go_at_call 81; refine (between_any _ _ _ _).mono ?_; rintro e w' ⟨rfl, rfl⟩)
    refine (HE.out _ HW1.out h3).mono ?_
    rintro e w1 ⟨rfl, b1⟩
    go_wp2
    go_ret
    exact ⟨rfl, HW1.out.trans (b1.mono HW1.out.size)⟩

theorem chkPls_step2 (x : PV) (l : List PV) : (chkMod x.mod ≠ 0 ∧ chkPls ((x :: l).map PV.plc) = chkMod x.mod) ∨ (chkMod x.mod = 0 ∧ betw x.first 0 15 = false ∧ chkPls ((x :: l).map PV.plc) = 3) ∨ (chkMod x.mod = 0 ∧ betw x.first 0 15 = true ∧ chkPls ((x :: l).map PV.plc) = chkPls (l.map PV.plc)) := by
  have hs : chkPls ((x :: l).map PV.plc) = if chkMod x.mod ≠ 0 then chkMod x.mod else if betw x.first 0 15 = false then 3 else chkPls (l.map PV.plc) := rfl
  rw [hs]
  by_cases h0 : chkMod x.mod = 0
  · cases h1 : betw x.first 0 15
    · exact .inr (.inl ⟨h0, rfl, by rw [if_neg (by omega), if_pos rfl]⟩)
    · exact .inr (.inr ⟨h0, rfl, by rw [if_neg (by omega), if_neg (by decide)]⟩)
  · exact .inl ⟨h0, by rw [if_pos h0]⟩

set_option maxHeartbeats 2000000 in
theorem checkModules_any (l : List PV) (v : Value) (w : World) (hrow : IsPlcs w.heap.size w v l) (hfit : ∀ x ∈ l, x.mod.fits) :
    Calls Tryz.prog 83 #[v, .bool true, .bool false] w fun e w' => e = .returned (.int .i64 (chkPlaced (l.map PV.plc))) ∧ Below w.heap.size w w' := by
  have HC0 : Hid (∀ x ∈ l, ∀ W, Below w.heap.size w W → Calls Tryz.prog 132 #[x.modV] W fun e w' => e = .returned (.int .i64 (chkMod x.mod)) ∧ Below W.heap.size W w') := fun x hx W hb => checkModule_any x.mod x.modV W (((hrow.2 x hx).below hb).more hb.size |>.isMod) (hfit x hx)
  have hat := hrow.2
  obtain ⟨⟨a, cap, rfl, _, hrow⟩, _⟩ := hrow
  by_cases h8 : 8 < l.length
  · have e1 : chkPlaced (l.map PV.plc) = 2 := by
      unfold chkPlaced
      rw [if_pos (by simpa using h8)]
    rw [e1]
    have h8' : (8 : Int) < l.length := by omega
    clear e1 HC0 hat hrow
    go_enter Tryz.func83, Tryz.ntmps83
    go_wp2
    go_ret
    exact ⟨rfl, Below.refl _ _⟩
  · have e1 : chkPlaced (l.map PV.plc) = chkPls (l.map PV.plc) := by
      unfold chkPlaced
      rw [if_neg (by simpa using h8)]
    rw [e1]
    have h8' : decide ((8 : Int) < l.length) = false := decide_eq_false (by omega)
    have h8'' : decide (8 < l.length) = false := decide_eq_false (by omega)
    clear e1
    go_enter Tryz.func83, Tryz.ntmps83
    go_wp2_with fail
    go_loopw [7] (fun i wr => ∃ (k : Nat), k ≤ l.length ∧ i = .int .i64 k ∧ Hid (chkPls (l.map PV.plc) = chkPls ((l.drop k).map PV.plc)) ∧ Below w.heap.size w wr) (fun i _ => l.length - (intOf i).toNat)
    case atStart => exact ⟨0, Nat.zero_le _, rfl, by show chkPls (l.map PV.plc) = chkPls ((l.drop 0).map PV.plc); rfl, Below.refl _ _⟩
    case round =>
      obtain ⟨k, hk, rfl, HC, B⟩ := hrel
      by_cases hlt : k < l.length
      · obtain ⟨x, hx⟩ : ∃ x, l[k]? = some x := ⟨_, List.getElem?_eq_getElem hlt⟩
        rcases hrow with h | ⟨b, off, rfl, hbn, hcells⟩
        · subst h; simp at hlt
        have key := chkPls_step2 x (l.drop (k + 1))
        have HR : Hid (chkPls (l.map PV.plc) = chkPls ((x :: l.drop (k + 1)).map PV.plc)) := by
          show chkPls (l.map PV.plc) = _
          rw [HC.out, drop_at hx]
        have HM : Hid (∀ W, Below w.heap.size w W → Calls Tryz.prog 132 #[x.modV] W fun e w' => e = .returned (.int .i64 (chkMod x.mod)) ∧ Below W.heap.size W w') := HC0.out x (List.mem_of_getElem? hx)
        obtain ⟨⟨pe, ke, e4, _⟩, ⟨pi, ki, e5, _⟩, ⟨pp, kp, e6, _⟩⟩ := hat x (List.mem_of_getElem? hx)
        obtain ⟨⟨N, ma, mi, T, es, is, ps⟩, ve, vi, vp, fi⟩ := x
        dsimp only at e4 e5 e6
        subst e4 e5 e6
        have c0 := (B.cell (p := ⟨b, off + k * 8 + 0, none⟩) hbn).trans (hcells k _ hx 0 (by omega))
        have c1 := (B.cell (p := ⟨b, off + k * 8 + 1, none⟩) hbn).trans (hcells k _ hx 1 (by omega))
        have c2 := (B.cell (p := ⟨b, off + k * 8 + 2, none⟩) hbn).trans (hcells k _ hx 2 (by omega))
        have c3 := (B.cell (p := ⟨b, off + k * 8 + 3, none⟩) hbn).trans (hcells k _ hx 3 (by omega))
        have c4 := (B.cell (p := ⟨b, off + k * 8 + 4, none⟩) hbn).trans (hcells k _ hx 4 (by omega))
        have c5 := (B.cell (p := ⟨b, off + k * 8 + 5, none⟩) hbn).trans (hcells k _ hx 5 (by omega))
        have c6 := (B.cell (p := ⟨b, off + k * 8 + 6, none⟩) hbn).trans (hcells k _ hx 6 (by omega))
        have q7 := hcells k _ hx 7 (by omega)
        dsimp only [PV.cell, PV.modV] at c0 c1 c2 c3 c4 c5 c6 q7 HM
        rw [Nat.add_zero] at c0
        clear HC HC0 hcells hx hat
        dsimp only at key
        generalize chkMod ⟨N, ma, mi, T, es, is, ps⟩ = cm at key HM
        generalize chkPls (List.map PV.plc (⟨⟨N, ma, mi, T, es, is, ps⟩, .slice pe es.length ke, .slice pi is.length ki, .slice pp ps.length kp, fi⟩ :: l.drop (k + 1))) = R at key HR
        generalize es.length = le at *
        generalize is.length = li at *
        generalize ps.length = lp at *
        go_wp2_with fail
        refine (HM.out _ B).mono ?_
        rintro e w2 ⟨rfl, b2⟩
        have B2 := B.trans (b2.mono B.size)
        have X7 := (B2.cell (p := ⟨b, off + k * 8 + 7, none⟩) hbn).trans q7
        clear b2 c0 c1 c2 c3 c4 c5 c6 q7 HM
        rcases key with ⟨h1, rfl⟩ | ⟨rfl, h2, rfl⟩ | ⟨rfl, h2, rfl⟩
        · have h1' : (R != 0) = true := by simpa using h1
          go_wp2
          go_ret
          exact ⟨by rw [HR.out]; rfl, B2⟩
        · go_wp2_with (go_at_call 81; refine (between_any _ _ _ _).mono ?_; rintro e w' ⟨rfl, rfl⟩)
          go_ret
          exact ⟨by rw [HR.out]; rfl, B2⟩
        · go_wp2_with (go_at_call 81; refine (between_any _ _ _ _).mono ?_; rintro e w' ⟨rfl, rfl⟩)
          exact ⟨⟨k + 1, by omega, by go_num, HR.out, B2⟩, by simp [intOf]; omega⟩
      · obtain rfl : k = l.length := by omega
        have HZ : Hid (chkPls (l.map PV.plc) = 0) := by
          show chkPls (l.map PV.plc) = 0
          rw [HC.out, List.drop_length]; rfl
        go_wp2
        go_ret
        exact ⟨by rw [HZ.out]; rfl, B⟩

def posOf : Option Exp → Int
  | none => -1
  | some x => x.pos

set_option maxHeartbeats 1000000 in
theorem exportAt_any (l : List Exp) (v : Value) (name : ByteArray) (w : World) (hrow : RowOf 2 Exp.cell w.heap.size w v l) :
    Calls Tryz.prog 133 #[v, .string name] w fun e w' => e = .returned (.int .i64 (posOf (expOf l name))) ∧ Below w.heap.size w w' := by
  obtain ⟨a, cap, rfl, _, hrow⟩ := hrow
  go_enter Tryz.func133, Tryz.ntmps133
  go_wp2_with fail
  go_loopw [5] (fun i wr => ∃ (k : Nat), k ≤ l.length ∧ i = .int .i64 k ∧ Hid (expOf l name = expOf (l.drop k) name) ∧ Below w.heap.size w wr) (fun i _ => l.length - (intOf i).toNat)
  case atStart => exact ⟨0, Nat.zero_le _, rfl, by show expOf l name = expOf (l.drop 0) name; rfl, Below.refl _ _⟩
  case round =>
    obtain ⟨k, hk, rfl, HC, B⟩ := hrel
    by_cases hlt : k < l.length
    · obtain ⟨x, hx⟩ : ∃ x, l[k]? = some x := ⟨_, List.getElem?_eq_getElem hlt⟩
      rcases hrow with h | ⟨b, off, rfl, hbn, hcells⟩
      · subst h; simp at hlt
      have c0 := (B.cell (p := ⟨b, off + k * 2 + 0, none⟩) hbn).trans (hcells k _ hx 0 (by omega))
      have c1 := (B.cell (p := ⟨b, off + k * 2 + 1, none⟩) hbn).trans (hcells k _ hx 1 (by omega))
      dsimp only [Exp.cell] at c0 c1
      rw [Nat.add_zero] at c0
      have hC := HC.out
      rw [drop_at hx] at hC
      unfold expOf at hC
      rw [List.find?_cons] at hC
      cases hq : x.name == name
      · rw [hq] at hC
        have HR : Hid (expOf l name = expOf (l.drop (k + 1)) name) := hC
        clear hC HC hcells hx
        rw [← toList_beq2] at hq
        go_wp2
        exact ⟨⟨k + 1, by omega, by go_num, HR.out, B⟩, by simp [intOf]; omega⟩
      · rw [hq] at hC
        have HR : Hid (expOf l name = some x) := hC
        clear hC HC hcells hx
        rw [← toList_beq2] at hq
        go_wp2
        go_ret
        exact ⟨by rw [HR.out]; rfl, B⟩
    · obtain rfl : k = l.length := by omega
      have HZ : Hid (expOf l name = none) := by
        show expOf l name = none
        rw [HC.out, List.drop_length]; rfl
      go_wp2
      go_ret
      exact ⟨by rw [HZ.out]; rfl, B⟩

set_option maxHeartbeats 1000000 in
theorem placeOf_any (l : List PV) (v : Value) (name : ByteArray) (w : World) (hrow : RowOf 8 PV.cell w.heap.size w v l) :
    Calls Tryz.prog 12 #[v, .string name] w fun e w' => e = .returned (.int .i64 (idxFrom (fun x : PV => x.mod.name == name) 0 l)) ∧ Below w.heap.size w w' := by
  obtain ⟨a, cap, rfl, _, hrow⟩ := hrow
  have HST : Hid (∀ k x r, idxFrom (fun x : PV => x.mod.name == name) k (x :: r) = if (x.mod.name == name) = true then (k : Int) else idxFrom (fun x : PV => x.mod.name == name) (k + 1) r) := fun _ _ _ => rfl
  have HNL : Hid (∀ k, idxFrom (fun x : PV => x.mod.name == name) k [] = -1) := fun _ => rfl
  generalize idxFrom (fun x : PV => x.mod.name == name) = IX at *
  go_enter Tryz.func12, Tryz.ntmps12
  go_wp2_with fail
  go_loopw [5] (fun i wr => ∃ (k : Nat), k ≤ l.length ∧ i = .int .i64 k ∧ Hid (IX 0 l = IX k (l.drop k)) ∧ Below w.heap.size w wr) (fun i _ => l.length - (intOf i).toNat)
  case atStart => exact ⟨0, Nat.zero_le _, rfl, by show IX 0 l = IX 0 (l.drop 0); rfl, Below.refl _ _⟩
  case round =>
    obtain ⟨k, hk, rfl, HC, B⟩ := hrel
    by_cases hlt : k < l.length
    · obtain ⟨x, hx⟩ : ∃ x, l[k]? = some x := ⟨_, List.getElem?_eq_getElem hlt⟩
      rcases hrow with h | ⟨b, off, rfl, hbn, hcells⟩
      · subst h; simp at hlt
      have c0 := (B.cell (p := ⟨b, off + k * 8 + 0, none⟩) hbn).trans (hcells k _ hx 0 (by omega))
      dsimp only [PV.cell] at c0
      rw [Nat.add_zero] at c0
      have hC := HC.out
      rw [drop_at hx, HST.out] at hC
      cases hq : x.mod.name == name
      · rw [hq, if_neg (by decide)] at hC
        have HR : Hid (IX 0 l = IX (k + 1) (l.drop (k + 1))) := hC
        clear hC HC hcells hx
        rw [← toList_beq2] at hq
        go_wp2
        exact ⟨⟨k + 1, by omega, by go_num, HR.out, B⟩, by simp [intOf]; omega⟩
      · rw [hq, if_pos rfl] at hC
        have HR : Hid (IX 0 l = k) := hC
        clear hC HC hcells hx
        rw [← toList_beq2] at hq
        go_wp2
        go_ret
        exact ⟨by rw [HR.out]; rfl, B⟩
    · obtain rfl : k = l.length := by omega
      have HZ : Hid (IX 0 l = -1) := by
        show IX 0 l = -1
        rw [HC.out, List.drop_length, HNL.out]
      go_wp2
      go_ret
      exact ⟨by rw [HZ.out]; rfl, B⟩

end Go.Proofs.YthmohjgdcjafkadGreat

/- Where what is installed lies, and what is put in anew: as data. -/
namespace Go.Proofs.YthmohjgdcjafkadGreat
open Go.RowKit Go.PlainAid Go.Lib

theorem idx_ixT {α : Type} (p : α → Bool) : ∀ (q : List α) (k : Nat), idxFrom p k q = ixFrom p k q
  | [], _ => rfl
  | x :: q, k => by
    have h1 : idxFrom p k (x :: q) = if p x then (k : Int) else idxFrom p (k + 1) q := rfl
    have h2 : ixFrom p k (x :: q) = if p x then (k : Int) else ixFrom p (k + 1) q := rfl
    rw [h1, h2, idx_ixT p q (k + 1)]
/-- What is installed: not at all, or where there was room first. -/
def InAlt (l : List PV) (M : Mod) (l' : List PV) (ae : Int) : Prop :=
  ae ≠ 0 ∨ (ae = 0 ∧ chkMod M = 0 ∧ ∃ (f : Int), firstRes (l.map PV.plc) (szM M) = (f, 0) ∧ ∃ (k : Nat) (y : PV), l'[k]? = some y ∧ ixFrom (fun z : PV => z.mod.name == M.name) 0 l' = (k : Int) ∧ y.first = f)
/-- What is put in anew: not at all, or where the old one was, if it is no greater. -/
def UpAlt (l : List PV) (M : Mod) (l' : List PV) (ae : Int) : Prop :=
  (ae ≠ 0 ∧ l' = []) ∨ (ae = 0 ∧ chkMod M = 0 ∧ ∃ (j : Nat) (x : PV), l[j]? = some x ∧ ixFrom (fun z : PV => z.mod.name == M.name) 0 l = (j : Int) ∧ chkMod x.mod = 0 ∧ ∃ (k : Nat) (y : PV), l'[k]? = some y ∧ ixFrom (fun z : PV => z.mod.name == M.name) 0 l' = (k : Int) ∧ (szM M ≤ szM x.mod → y.first = x.first))
theorem in_alt {K : Ker} {l l' : List PV} {M : Mod} (hp : l'.map PV.plc = (planRes K (l.map PV.plc) (instDo (l.map PV.plc) M)).1.2) : InAlt l M l' (planRes K (l.map PV.plc) (instDo (l.map PV.plc) M)).2 := by
  by_cases h : (planRes K (l.map PV.plc) (instDo (l.map PV.plc) M)).2 = 0
  · obtain ⟨h1, h2, h3, h4, f, h5, h6, h7, h8⟩ := inst_ok h
    rw [h8] at hp
    dsimp only at hp
    have hmem : (⟨M, f⟩ : Plc) ∈ l'.map PV.plc := by rw [hp]; exact mem_putAt.2 (.inl rfl)
    obtain ⟨k, y, g1, g2, g3⟩ := ix_pv (by rw [hp]; exact rg_names h7) hmem
    exact .inr ⟨h, h2, f, h5, k, y, g1, g3, congrArg Plc.first g2⟩
  · exact .inl h
theorem upp_alt {K : Ker} {l l' : List PV} {M : Mod} (hp : l'.map PV.plc = (planRes K (l.map PV.plc) (upDo (l.map PV.plc) M)).1.2) : UpAlt l M l' (planRes K (l.map PV.plc) (upDo (l.map PV.plc) M)).2 := by
  by_cases h : (planRes K (l.map PV.plc) (upDo (l.map PV.plc) M)).2 = 0
  · obtain ⟨h1, h2, j, p, f, h3, h4, h5, h6, h7, h8, h9⟩ := up_ok h
    rw [h9] at hp
    dsimp only at hp
    have hmem : (⟨M, f⟩ : Plc) ∈ l'.map PV.plc := by rw [hp]; exact mem_putAt.2 (.inl rfl)
    obtain ⟨k, y, g1, g2, g3⟩ := ix_pv (by rw [hp]; exact rg_names h8) hmem
    have hx := h4
    rw [List.getElem?_map] at hx
    cases hlj : l[j]? with
    | none => rw [hlj] at hx; cases hx
    | some x =>
      rw [hlj] at hx
      obtain rfl : x.plc = p := by simpa using hx
      refine .inr ⟨h, h2, j, x, hlj, by unfold nameIx at h3; rw [ix_map] at h3; exact h3, rg_mods h1 x.plc (List.mem_of_getElem? h4), k, y, g1, g3, fun hs => ?_⟩
      have hsz := szM_bd h2
      rw [room_same (many := szM M) (rg_reg h1) h4 (by omega) hs] at h6
      have e1 : y.first = f := congrArg Plc.first g2
      rw [e1]
      exact (Option.some.inj h6).symm
  · left
    refine ⟨h, ?_⟩
    rcases plan_cases K (l.map PV.plc) (upDo (l.map PV.plc) M) with ⟨_, e⟩ | ⟨_, _, e⟩ | ⟨_, _, _, e⟩ | ⟨_, _, _, e⟩
    · rw [e] at hp; exact List.map_eq_nil_iff.1 hp
    · rw [e] at hp; exact List.map_eq_nil_iff.1 hp
    · rw [e] at hp; exact List.map_eq_nil_iff.1 hp
    · rw [e] at h; exact absurd rfl h

end Go.Proofs.YthmohjgdcjafkadGreat

/- What must be in any case, of regions. -/
namespace Go.Proofs.YthmohjgdcjafkadGreat
open Go.RowKit Go.PlainAid

set_option maxRecDepth 100000

set_option maxHeartbeats 1000000 in
theorem sameRuns_yes (l : List (Int × Int)) (v v' : Value) (w : World) (h1 : RowOf 2 runCell w.heap.size w v l) (h2 : RowOf 2 runCell w.heap.size w v' l) :
    Calls Tryz.prog 58 #[v, v'] w fun e w' => e = .returned (.bool true) ∧ Below w.heap.size w w' := by
  obtain ⟨a, cap, rfl, hz, h1⟩ := h1
  obtain ⟨a', cap', rfl, _, h2⟩ := h2
  have hne : ((l.length : Int) != (l.length : Int)) = false := by simp
  go_enter Tryz.func58, Tryz.ntmps58
  go_wp2
  go_loopw [5] (fun i wr => ∃ (k : Nat), k ≤ l.length ∧ i = .int .i64 k ∧ Hid (∃ q, wr = w.drewN q)) (fun i _ => l.length - (intOf i).toNat)
  case atStart => exact ⟨0, Nat.zero_le _, rfl, (⟨0, rfl⟩ : ∃ q, w = w.drewN q)⟩
  case round =>
    obtain ⟨k, hk, rfl, HQ⟩ := hrel
    by_cases hlt : k < l.length
    · obtain ⟨p, hp⟩ : ∃ p, l[k]? = some p := ⟨_, List.getElem?_eq_getElem hlt⟩
      rcases h1 with h | ⟨b, off, rfl, hbn, hc⟩
      · subst h; simp at hlt
      rcases h2 with h | ⟨b', off', rfl, hbn', hc'⟩
      · subst h; simp at hlt
      have hcl : ∀ p, wr.cell? p = w.cell? p := fun p => by obtain ⟨q, hq⟩ := HQ.out; rw [hq]; simp
      have c0 := (hcl _).trans (hc k _ hp 0 (by omega))
      have c1 := (hcl _).trans (hc k _ hp 1 (by omega))
      have d0 := (hcl _).trans (hc' k _ hp 0 (by omega))
      have d1 := (hcl _).trans (hc' k _ hp 1 (by omega))
      obtain ⟨n, A⟩ := p
      dsimp only [runCell] at c0 c1 d0 d1
      rw [Nat.add_zero] at c0 d0
      clear hcl hc hc' hp
      go_wp2
      go_quiet (fail)
      go_wp2
      obtain ⟨q, hq⟩ := HQ.out
      exact ⟨⟨k + 1, by omega, by go_num, (⟨q + _, by rw [hq, World.drewN_drewN]⟩ : ∃ q, _ = w.drewN q)⟩, by simp [intOf]; omega⟩
    · go_wp2
      go_ret
      obtain ⟨q, hq⟩ := HQ.out
      exact ⟨rfl, by rw [hq]; exact below_drewN (Below.refl _ _) q⟩

theorem reg_pair : chkReg pairL = 0 := by kernel_rfl
theorem free_pair : freeRes pairL = [(0, 1), (2, 2), (5, 11)] := by kernel_rfl
theorem first_pair : firstRes pairL 2 = (2, 0) := by kernel_rfl
theorem sz_lib : szM libM = 1 := by kernel_rfl

set_option maxHeartbeats 4000000 in
theorem regionBegun_any (w : World) : Calls Tryz.prog 24 #[] w fun e w' => e = .returned (.bool true) ∧ Below w.heap.size w w' := by
  go_enter Tryz.func24, Tryz.ntmps24
  go_wp2_with fail
  refine (lib_any _).mono ?_
  rintro e w1 ⟨pe, ke, rfl, hL, b1⟩
  have HS : Hid (Calls Tryz.prog 30 _ w1 fun e w' => _) := size_any libM _ w1 hL fits_lib
  rw [chk_lib, if_pos rfl, sz_lib] at HS
  clear hL
  go_wp2_with fail
  refine HS.out.mono ?_
  rintro e w2 ⟨rfl, b2⟩
  have B2 := b1.trans (b2.mono b1.size)
  clear b1 b2 HS
  go_wp2_with fail
  refine (pair_any _).mono ?_
  rintro e w3 ⟨v3, l3, rfl, h3, p3, b3⟩
  have B3 := B2.trans (b3.mono B2.size)
  have HF : Hid (Calls Tryz.prog 26 #[v3] w3 fun e w' => _) := free_any l3 v3 w3 p3 (pair_fits h3)
  rw [h3, reg_pair, free_pair] at HF
  obtain ⟨⟨a3, c3, rfl, _, _⟩, _⟩ := p3
  clear B2 b3 h3
  generalize l3.length = n3 at *
  go_wp2_with fail
  refine HF.out.mono ?_
  rintro e w4 ⟨⟨r4, rfl, R4⟩, b4⟩
  have B4 := B3.trans (b4.mono B3.size)
  clear HF b4 B3
  obtain ⟨a4, c4, rfl, _⟩ := id R4
  go_wp2_with fail
  refine (pair_any _).mono ?_
  rintro e w5 ⟨v5, l5, rfl, h5, p5, b5⟩
  have B5 := B4.trans (b5.mono B4.size)
  have R5 := (R4.below b5).more b5.size
  have HF : Hid (Calls Tryz.prog 31 #[v5, .int .i64 2] w5 fun e w' => _) := first_any l5 v5 2 w5 p5 (pair_fits h5)
  rw [h5, first_pair] at HF
  obtain ⟨⟨a5, c5, rfl, _, _⟩, _⟩ := p5
  clear B4 b5 h5 R4
  generalize l5.length = n5 at *
  go_wp2_with fail
  refine HF.out.mono ?_
  rintro e w6 ⟨rfl, b6⟩
  have B6 := B5.trans (b6.mono B5.size)
  have R6 := (R5.below b6).more b6.size
  clear HF b6 B5 R5
  have B7 : Below w.heap.size w (w6.alloc (.cells #[.int .i64 0, .int .i64 1, .int .i64 2, .int .i64 2, .int .i64 5, .int .i64 11] 92)) := B6.alloc B6.size _
  have b7 : Below w6.heap.size w6 (w6.alloc (.cells #[.int .i64 0, .int .i64 1, .int .i64 2, .int .i64 2, .int .i64 5, .int .i64 11] 92)) := (Below.refl _ _).alloc (Nat.le_refl _) _
  have R7 : RowOf 2 runCell (w6.alloc (.cells #[.int .i64 0, .int .i64 1, .int .i64 2, .int .i64 2, .int .i64 5, .int .i64 11] 92)).heap.size (w6.alloc (.cells #[.int .i64 0, .int .i64 1, .int .i64 2, .int .i64 2, .int .i64 5, .int .i64 11] 92)) (.slice (some ⟨w6.heap.size, 0, none⟩) 3 3) [(0, 1), (2, 2), (5, 11)] :=
    rowOf_cells (C := runC) (cells := runCell) (sz := 2) (fun _ => rfl) runC_at (CellsAt.new w6 92 _) [(0, 1), (2, 2), (5, 11)] (show 3 ≤ 255 by decide) 3 rfl
  have HQ : Hid (Calls Tryz.prog 58 _ _ fun e w' => _) := sameRuns_yes _ _ _ _ ((R6.below b7).more b7.size) R7
  have HB7 : Hid (Below w.heap.size w (w6.alloc (.cells #[.int .i64 0, .int .i64 1, .int .i64 2, .int .i64 2, .int .i64 5, .int .i64 11] 92))) := B7
  clear b7 R7 R6 B7
  go_wp2_with fail
  refine HQ.out.mono ?_
  rintro e w8 ⟨rfl, b8⟩
  have B8 := HB7.out.trans (b8.mono HB7.out.size)
  clear HQ HB7 b8
  go_wp2
  go_ret
  exact ⟨rfl, B8⟩

end Go.Proofs.YthmohjgdcjafkadGreat

/- The walk of the law PlanSpace: it returns true. Printed by genps.py. -/
namespace Go.Proofs.YthmohjgdcjafkadGreat.planSpace
open Go.RowKit Go.PlainAid Go.Lib Go.Sort Go.BigFrame

set_option maxRecDepth 100000

set_option maxHeartbeats 64000000 in
theorem walk (K : Ker) (l : List PV) (v : Value) (M : Mod) (vm : Value) (w : World) (h : IsReg w.heap.size w v K l) (hf : K.fits) (hfit : ∀ x ∈ l, x.mod.fits) (hm : IsMod w.heap.size w vm M) (hmf : M.fits) :
    Calls Tryz.prog 8 #[v, vm] w fun e w' => e = .returned (.bool true) ∧ Below w.heap.size w w' := by
  have HIN : Hid (∀ W, IsReg W.heap.size W v K l → IsMod W.heap.size W vm M → Calls Tryz.prog 29 #[v, vm] W fun e w' => (∃ (v' : Value) (l' : List PV) (AK : Ker) (ae : Int), e = .returned (.tuple #[v', .int .i64 ae]) ∧ IsReg w'.heap.size w' v' AK l' ∧ InAlt l M l' ae) ∧ Below W.heap.size W w') := fun W hr hM => by
    refine (plInstall_any K l v M vm W hr hf hfit hM hmf).mono ?_
    rintro e w' ⟨⟨v', l', rfl, hp, hft, ho⟩, hb⟩
    have hi := planRes_reg hp ho
    have ha := in_alt hp
    generalize planRes K (l.map PV.plc) (instDo (l.map PV.plc) M) = PR at *
    obtain ⟨⟨AK, AL⟩, ae⟩ := PR
    dsimp only at *
    subst hp
    exact ⟨⟨v', l', AK, ae, rfl, hi, ha⟩, hb⟩
  have HUP : Hid (∀ W, IsReg W.heap.size W v K l → IsMod W.heap.size W vm M → Calls Tryz.prog 32 #[v, vm] W fun e w' => (∃ (v' : Value) (l' : List PV) (AK : Ker) (ae : Int), e = .returned (.tuple #[v', .int .i64 ae]) ∧ IsReg w'.heap.size w' v' AK l' ∧ UpAlt l M l' ae) ∧ Below W.heap.size W w') := fun W hr hM => by
    refine (plUpgrade_any K l v M vm W hr hf hfit hM hmf).mono ?_
    rintro e w' ⟨⟨v', l', rfl, hp, hft, ho⟩, hb⟩
    have hi := planRes_reg hp ho
    have ha := upp_alt hp
    generalize planRes K (l.map PV.plc) (upDo (l.map PV.plc) M) = PR at *
    obtain ⟨⟨AK, AL⟩, ae⟩ := PR
    dsimp only at *
    subst hp
    exact ⟨⟨v', l', AK, ae, rfl, hi, ha⟩, hb⟩
  have HSZ : Hid (chkMod M = 0 → ∀ W, IsMod W.heap.size W vm M → Calls Tryz.prog 30 #[vm] W fun e w' => e = .returned (.tuple #[.int .i64 (szM M : Int), .int .i64 0]) ∧ Below W.heap.size W w') := fun hc W hM => by
    have := size_any M vm W hM hmf
    rw [hc, if_pos rfl] at this
    exact this
  have HFS : Hid (∀ vl W, IsPlcs W.heap.size W vl l → Calls Tryz.prog 31 #[vl, .int .i64 (szM M : Int)] W fun e w' => e = .returned (.tuple #[.int .i64 (firstRes (l.map PV.plc) (szM M)).1, .int .i64 (firstRes (l.map PV.plc) (szM M)).2]) ∧ Below W.heap.size W w') := fun vl W hr => first_any l vl (szM M) W hr hfit
  have HPO : Hid (∀ (l1 : List PV) vl W, RowOf 8 PV.cell W.heap.size W vl l1 → Calls Tryz.prog 12 #[vl, .string M.name] W fun e w' => e = .returned (.int .i64 (ixFrom (fun z : PV => z.mod.name == M.name) 0 l1)) ∧ Below W.heap.size W w') := fun l1 vl W hr => by
    have := placeOf_any l1 vl M.name W hr
    rw [idx_ixT] at this
    exact this
  have HSX : Hid (∀ x ∈ l, chkMod x.mod = 0 → ∀ W, PlcAt W.heap.size W x → Calls Tryz.prog 30 #[x.modV] W fun e w' => e = .returned (.tuple #[.int .i64 (szM x.mod : Int), .int .i64 0]) ∧ Below W.heap.size W w') := fun x hx hc W hp => by
    have := size_any x.mod x.modV W hp.isMod (hfit x hx)
    rw [hc, if_pos rfl] at this
    exact this
  have HR_r : Hid (IsReg w.heap.size w v K l) := h
  have HM_m : Hid (IsMod w.heap.size w vm M) := hm
  obtain ⟨qe, je, a, cap, rfl⟩ := h.shape0
  obtain ⟨vxe, vxi, vxp, rfl, hxE, hxI, hxP⟩ := hm
  obtain ⟨pe, ke, e4, -⟩ := hxE
  obtain ⟨pi, ki, e5, -⟩ := hxI
  obtain ⟨pp, kp, e6, -⟩ := hxP
  subst e4 e5 e6
  clear h hf hfit hmf
  generalize hlk : K.exps.length = lk at *
  have HLK : Hid (K.exps.length = lk) := hlk
  clear hlk
  generalize M.exps.length = le at *
  generalize M.imps.length = li at *
  generalize M.pats.length = lp at *
  have HB0 : Hid (Below w.heap.size w w) := Below.refl _ _
  go_enter Tryz.func8, Tryz.ntmps8
  have ba : Below w.heap.size w (w.alloc (.cells #[.int .i64 K.major, .int .i64 K.minor, .slice qe lk je, .slice a l.length cap] 48)) := (Below.refl _ _).alloc (Nat.le_refl _) _
  have olw_g1 : w.heap.size ≤ w.heap.size := HB0.out.size
  have HB1 : Hid (Below w.heap.size w (w.alloc (.cells #[.int .i64 K.major, .int .i64 K.minor, .slice qe lk je, .slice a l.length cap] 48))) := HB0.out.trans (ba.mono HB0.out.size)
  have HR1_r : Hid (IsReg (w.alloc (.cells #[.int .i64 K.major, .int .i64 K.minor, .slice qe lk je, .slice a l.length cap] 48)).heap.size (w.alloc (.cells #[.int .i64 K.major, .int .i64 K.minor, .slice qe lk je, .slice a l.length cap] 48)) (.agg #[.int .i64 K.major, .int .i64 K.minor, .slice qe lk je, .slice a l.length cap]) K l) := (HR_r.out.below ba).more ba.size
  have HM1_m : Hid (IsMod (w.alloc (.cells #[.int .i64 K.major, .int .i64 K.minor, .slice qe lk je, .slice a l.length cap] 48)).heap.size (w.alloc (.cells #[.int .i64 K.major, .int .i64 K.minor, .slice qe lk je, .slice a l.length cap] 48)) (.agg #[.string M.name, .int .i64 M.major, .int .i64 M.minor, .string M.text, .slice pe le ke, .slice pi li ki, .slice pp lp kp]) M) := (HM_m.out.below ba).more ba.size
  clear HB0 HR_r HM_m
  clear ba
  have HC2_g1 : Hid (CellsAt (w.alloc (.cells #[.int .i64 K.major, .int .i64 K.minor, .slice qe lk je, .slice a l.length cap] 48)) w.heap.size 48 #[.int .i64 K.major, .int .i64 K.minor, .slice qe lk je, .slice a l.length cap]) := CellsAt.new _ _ _
  have ba : Below (w.alloc (.cells #[.int .i64 K.major, .int .i64 K.minor, .slice qe lk je, .slice a l.length cap] 48)).heap.size (w.alloc (.cells #[.int .i64 K.major, .int .i64 K.minor, .slice qe lk je, .slice a l.length cap] 48)) ((w.alloc (.cells #[.int .i64 K.major, .int .i64 K.minor, .slice qe lk je, .slice a l.length cap] 48)).alloc (.cells #[.string M.name, .int .i64 M.major, .int .i64 M.minor, .string M.text, .slice pe le ke, .slice pi li ki, .slice pp lp kp] 39)) := (Below.refl _ _).alloc (Nat.le_refl _) _
  have ol_g1_g2 : w.heap.size < (w.alloc (.cells #[.int .i64 K.major, .int .i64 K.minor, .slice qe lk je, .slice a l.length cap] 48)).heap.size := CellsAt.lt HC2_g1.out
  have olw_g2 : w.heap.size ≤ (w.alloc (.cells #[.int .i64 K.major, .int .i64 K.minor, .slice qe lk je, .slice a l.length cap] 48)).heap.size := HB1.out.size
  have HB3 : Hid (Below w.heap.size w ((w.alloc (.cells #[.int .i64 K.major, .int .i64 K.minor, .slice qe lk je, .slice a l.length cap] 48)).alloc (.cells #[.string M.name, .int .i64 M.major, .int .i64 M.minor, .string M.text, .slice pe le ke, .slice pi li ki, .slice pp lp kp] 39))) := HB1.out.trans (ba.mono HB1.out.size)
  have HC3_g1 : Hid (CellsAt ((w.alloc (.cells #[.int .i64 K.major, .int .i64 K.minor, .slice qe lk je, .slice a l.length cap] 48)).alloc (.cells #[.string M.name, .int .i64 M.major, .int .i64 M.minor, .string M.text, .slice pe le ke, .slice pi li ki, .slice pp lp kp] 39)) w.heap.size 48 #[.int .i64 K.major, .int .i64 K.minor, .slice qe lk je, .slice a l.length cap]) := HC2_g1.out.below ba HC2_g1.out.lt
  have HR3_r : Hid (IsReg ((w.alloc (.cells #[.int .i64 K.major, .int .i64 K.minor, .slice qe lk je, .slice a l.length cap] 48)).alloc (.cells #[.string M.name, .int .i64 M.major, .int .i64 M.minor, .string M.text, .slice pe le ke, .slice pi li ki, .slice pp lp kp] 39)).heap.size ((w.alloc (.cells #[.int .i64 K.major, .int .i64 K.minor, .slice qe lk je, .slice a l.length cap] 48)).alloc (.cells #[.string M.name, .int .i64 M.major, .int .i64 M.minor, .string M.text, .slice pe le ke, .slice pi li ki, .slice pp lp kp] 39)) (.agg #[.int .i64 K.major, .int .i64 K.minor, .slice qe lk je, .slice a l.length cap]) K l) := (HR1_r.out.below ba).more ba.size
  have HM3_m : Hid (IsMod ((w.alloc (.cells #[.int .i64 K.major, .int .i64 K.minor, .slice qe lk je, .slice a l.length cap] 48)).alloc (.cells #[.string M.name, .int .i64 M.major, .int .i64 M.minor, .string M.text, .slice pe le ke, .slice pi li ki, .slice pp lp kp] 39)).heap.size ((w.alloc (.cells #[.int .i64 K.major, .int .i64 K.minor, .slice qe lk je, .slice a l.length cap] 48)).alloc (.cells #[.string M.name, .int .i64 M.major, .int .i64 M.minor, .string M.text, .slice pe le ke, .slice pi li ki, .slice pp lp kp] 39)) (.agg #[.string M.name, .int .i64 M.major, .int .i64 M.minor, .string M.text, .slice pe le ke, .slice pi li ki, .slice pp lp kp]) M) := (HM1_m.out.below ba).more ba.size
  clear HB1 HC2_g1 HR1_r HM1_m
  clear ba
  have HC4_g2 : Hid (CellsAt ((w.alloc (.cells #[.int .i64 K.major, .int .i64 K.minor, .slice qe lk je, .slice a l.length cap] 48)).alloc (.cells #[.string M.name, .int .i64 M.major, .int .i64 M.minor, .string M.text, .slice pe le ke, .slice pi li ki, .slice pp lp kp] 39)) (w.alloc (.cells #[.int .i64 K.major, .int .i64 K.minor, .slice qe lk je, .slice a l.length cap] 48)).heap.size 39 #[.string M.name, .int .i64 M.major, .int .i64 M.minor, .string M.text, .slice pe le ke, .slice pi li ki, .slice pp lp kp]) := CellsAt.new _ _ _
  rw [World.size_alloc] at HC4_g2
  clear ol_g1_g2 olw_g2 olw_g1
  go_wp2_with fail
  refine (planBegun_any _).mono ?_
  generalize ((w.alloc (.cells #[.int .i64 K.major, .int .i64 K.minor, .slice qe lk je, .slice a l.length cap] 48)).alloc (.cells #[.string M.name, .int .i64 M.major, .int .i64 M.minor, .string M.text, .slice pe le ke, .slice pi li ki, .slice pp lp kp] 39)) = w2 at *
  rintro e w3 ⟨rfl, b3⟩
  have HB5 : Hid (Below w.heap.size w w3) := HB3.out.trans (b3.mono HB3.out.size)
  have HC5_g1 : Hid (CellsAt w3 w.heap.size 48 #[.int .i64 K.major, .int .i64 K.minor, .slice qe lk je, .slice a l.length cap]) := HC3_g1.out.below b3 HC3_g1.out.lt
  have HC5_g2 : Hid (CellsAt w3 (w.heap.size + 1) 39 #[.string M.name, .int .i64 M.major, .int .i64 M.minor, .string M.text, .slice pe le ke, .slice pi li ki, .slice pp lp kp]) := HC4_g2.out.below b3 HC4_g2.out.lt
  have HR5_r : Hid (IsReg w3.heap.size w3 (.agg #[.int .i64 K.major, .int .i64 K.minor, .slice qe lk je, .slice a l.length cap]) K l) := (HR3_r.out.below b3).more b3.size
  have HM5_m : Hid (IsMod w3.heap.size w3 (.agg #[.string M.name, .int .i64 M.major, .int .i64 M.minor, .string M.text, .slice pe le ke, .slice pi li ki, .slice pp lp kp]) M) := (HM3_m.out.below b3).more b3.size
  clear HB3 HC3_g1 HC4_g2 HR3_r HM3_m
  clear b3
  go_wp2_with fail
  refine (regionBegun_any _).mono ?_
  rintro e w4 ⟨rfl, b4⟩
  have HB6 : Hid (Below w.heap.size w w4) := HB5.out.trans (b4.mono HB5.out.size)
  have HC6_g1 : Hid (CellsAt w4 w.heap.size 48 #[.int .i64 K.major, .int .i64 K.minor, .slice qe lk je, .slice a l.length cap]) := HC5_g1.out.below b4 HC5_g1.out.lt
  have HC6_g2 : Hid (CellsAt w4 (w.heap.size + 1) 39 #[.string M.name, .int .i64 M.major, .int .i64 M.minor, .string M.text, .slice pe le ke, .slice pi li ki, .slice pp lp kp]) := HC5_g2.out.below b4 HC5_g2.out.lt
  have HR6_r : Hid (IsReg w4.heap.size w4 (.agg #[.int .i64 K.major, .int .i64 K.minor, .slice qe lk je, .slice a l.length cap]) K l) := (HR5_r.out.below b4).more b4.size
  have HM6_m : Hid (IsMod w4.heap.size w4 (.agg #[.string M.name, .int .i64 M.major, .int .i64 M.minor, .string M.text, .slice pe le ke, .slice pi li ki, .slice pp lp kp]) M) := (HM5_m.out.below b4).more b4.size
  clear HB5 HC5_g1 HC5_g2 HR5_r HM5_m
  clear b4
  have rg10 := CellsAt.cell HC6_g1.out 0
  have rg11 := CellsAt.cell HC6_g1.out 1
  have rg12 := CellsAt.cell HC6_g1.out 2
  have rg13 := CellsAt.cell HC6_g1.out 3
  have rg1l := CellsAt.lt HC6_g1.out
  simp at rg10 rg11 rg12 rg13
  have rg20 := CellsAt.cell HC6_g2.out 0
  have rg21 := CellsAt.cell HC6_g2.out 1
  have rg22 := CellsAt.cell HC6_g2.out 2
  have rg23 := CellsAt.cell HC6_g2.out 3
  have rg24 := CellsAt.cell HC6_g2.out 4
  have rg25 := CellsAt.cell HC6_g2.out 5
  have rg26 := CellsAt.cell HC6_g2.out 6
  have rg2l := CellsAt.lt HC6_g2.out
  simp at rg20 rg21 rg22 rg23 rg24 rg25 rg26
  go_wp2_with fail
  clear rg10 rg11 rg12 rg13 rg1l
  clear rg20 rg21 rg22 rg23 rg24 rg25 rg26 rg2l
  refine (HIN.out _ HR6_r.out HM6_m.out).mono ?_
  rintro e w5 ⟨⟨vA, lA, KA, eA, rfl, hiA, haA⟩, bA⟩
  have HB7 : Hid (Below w.heap.size w w5) := HB6.out.trans (bA.mono HB6.out.size)
  have HC7_g1 : Hid (CellsAt w5 w.heap.size 48 #[.int .i64 K.major, .int .i64 K.minor, .slice qe lk je, .slice a l.length cap]) := HC6_g1.out.below bA HC6_g1.out.lt
  have HC7_g2 : Hid (CellsAt w5 (w.heap.size + 1) 39 #[.string M.name, .int .i64 M.major, .int .i64 M.minor, .string M.text, .slice pe le ke, .slice pi li ki, .slice pp lp kp]) := HC6_g2.out.below bA HC6_g2.out.lt
  have HR7_r : Hid (IsReg w5.heap.size w5 (.agg #[.int .i64 K.major, .int .i64 K.minor, .slice qe lk je, .slice a l.length cap]) K l) := (HR6_r.out.below bA).more bA.size
  have HM7_m : Hid (IsMod w5.heap.size w5 (.agg #[.string M.name, .int .i64 M.major, .int .i64 M.minor, .string M.text, .slice pe le ke, .slice pi li ki, .slice pp lp kp]) M) := (HM6_m.out.below bA).more bA.size
  clear HB6 HC6_g1 HC6_g2 HR6_r HM6_m
  obtain ⟨qA, jA, aA, cA, rfl⟩ := hiA.shape0
  generalize hkA : KA.exps.length = kA at *
  have HALA : Hid _ := haA
  have HRNA : Hid (IsReg w5.heap.size w5 (.agg #[.int .i64 KA.major, .int .i64 KA.minor, .slice qA kA jA, .slice aA lA.length cA]) KA lA) := hiA
  clear bA hiA haA hkA HIN
  have ba : Below w5.heap.size w5 (w5.alloc (.cells #[.int .i64 KA.major, .int .i64 KA.minor, .slice qA kA jA, .slice aA lA.length cA] 48)) := (Below.refl _ _).alloc (Nat.le_refl _) _
  have ol_g1_gA : w.heap.size < w5.heap.size := CellsAt.lt HC7_g1.out
  have ol_g2_gA : (w.heap.size + 1) < w5.heap.size := CellsAt.lt HC7_g2.out
  have olw_gA : w.heap.size ≤ w5.heap.size := HB7.out.size
  have HB8 : Hid (Below w.heap.size w (w5.alloc (.cells #[.int .i64 KA.major, .int .i64 KA.minor, .slice qA kA jA, .slice aA lA.length cA] 48))) := HB7.out.trans (ba.mono HB7.out.size)
  have HC8_g1 : Hid (CellsAt (w5.alloc (.cells #[.int .i64 KA.major, .int .i64 KA.minor, .slice qA kA jA, .slice aA lA.length cA] 48)) w.heap.size 48 #[.int .i64 K.major, .int .i64 K.minor, .slice qe lk je, .slice a l.length cap]) := HC7_g1.out.below ba HC7_g1.out.lt
  have HC8_g2 : Hid (CellsAt (w5.alloc (.cells #[.int .i64 KA.major, .int .i64 KA.minor, .slice qA kA jA, .slice aA lA.length cA] 48)) (w.heap.size + 1) 39 #[.string M.name, .int .i64 M.major, .int .i64 M.minor, .string M.text, .slice pe le ke, .slice pi li ki, .slice pp lp kp]) := HC7_g2.out.below ba HC7_g2.out.lt
  have HR8_r : Hid (IsReg (w5.alloc (.cells #[.int .i64 KA.major, .int .i64 KA.minor, .slice qA kA jA, .slice aA lA.length cA] 48)).heap.size (w5.alloc (.cells #[.int .i64 KA.major, .int .i64 KA.minor, .slice qA kA jA, .slice aA lA.length cA] 48)) (.agg #[.int .i64 K.major, .int .i64 K.minor, .slice qe lk je, .slice a l.length cap]) K l) := (HR7_r.out.below ba).more ba.size
  have HR8_A : Hid (IsReg (w5.alloc (.cells #[.int .i64 KA.major, .int .i64 KA.minor, .slice qA kA jA, .slice aA lA.length cA] 48)).heap.size (w5.alloc (.cells #[.int .i64 KA.major, .int .i64 KA.minor, .slice qA kA jA, .slice aA lA.length cA] 48)) (.agg #[.int .i64 KA.major, .int .i64 KA.minor, .slice qA kA jA, .slice aA lA.length cA]) KA lA) := (HRNA.out.below ba).more ba.size
  have HM8_m : Hid (IsMod (w5.alloc (.cells #[.int .i64 KA.major, .int .i64 KA.minor, .slice qA kA jA, .slice aA lA.length cA] 48)).heap.size (w5.alloc (.cells #[.int .i64 KA.major, .int .i64 KA.minor, .slice qA kA jA, .slice aA lA.length cA] 48)) (.agg #[.string M.name, .int .i64 M.major, .int .i64 M.minor, .string M.text, .slice pe le ke, .slice pi li ki, .slice pp lp kp]) M) := (HM7_m.out.below ba).more ba.size
  clear HB7 HC7_g1 HC7_g2 HR7_r HRNA HM7_m
  clear ba
  have HC9_gA : Hid (CellsAt (w5.alloc (.cells #[.int .i64 KA.major, .int .i64 KA.minor, .slice qA kA jA, .slice aA lA.length cA] 48)) w5.heap.size 48 #[.int .i64 KA.major, .int .i64 KA.minor, .slice qA kA jA, .slice aA lA.length cA]) := CellsAt.new _ _ _
  go_upto_region 4 with fail
  generalize (w5.alloc (.cells #[.int .i64 KA.major, .int .i64 KA.minor, .slice qA kA jA, .slice aA lA.length cA] 48)) = w6 at *
  generalize w5.heap.size = gA at *
  rcases HALA.out with hal | ⟨hpe, hc2, f, hfr, k, y, hky, hiy, hyf⟩
  · have hal1 : (eA == 0) = false := by simpa using hal
    have HAL2 : Hid (eA ≠ 0) := hal
    clear hal HALA
    go_upto_region 10 with fail
    clear hal1
    have rg10 := CellsAt.cell HC8_g1.out 0
    have rg11 := CellsAt.cell HC8_g1.out 1
    have rg12 := CellsAt.cell HC8_g1.out 2
    have rg13 := CellsAt.cell HC8_g1.out 3
    have rg1l := CellsAt.lt HC8_g1.out
    simp at rg10 rg11 rg12 rg13
    have rg20 := CellsAt.cell HC8_g2.out 0
    have rg21 := CellsAt.cell HC8_g2.out 1
    have rg22 := CellsAt.cell HC8_g2.out 2
    have rg23 := CellsAt.cell HC8_g2.out 3
    have rg24 := CellsAt.cell HC8_g2.out 4
    have rg25 := CellsAt.cell HC8_g2.out 5
    have rg26 := CellsAt.cell HC8_g2.out 6
    have rg2l := CellsAt.lt HC8_g2.out
    simp at rg20 rg21 rg22 rg23 rg24 rg25 rg26
    go_wp2_with fail
    clear rg10 rg11 rg12 rg13 rg1l
    clear rg20 rg21 rg22 rg23 rg24 rg25 rg26 rg2l
    refine (HUP.out _ HR8_r.out HM8_m.out).mono ?_
    rintro e w15 ⟨⟨vC, lC, KC, eC, rfl, hiC, haC⟩, bC⟩
    have HB10 : Hid (Below w.heap.size w w15) := HB8.out.trans (bC.mono HB8.out.size)
    have HC10_g1 : Hid (CellsAt w15 w.heap.size 48 #[.int .i64 K.major, .int .i64 K.minor, .slice qe lk je, .slice a l.length cap]) := HC8_g1.out.below bC HC8_g1.out.lt
    have HC10_g2 : Hid (CellsAt w15 (w.heap.size + 1) 39 #[.string M.name, .int .i64 M.major, .int .i64 M.minor, .string M.text, .slice pe le ke, .slice pi li ki, .slice pp lp kp]) := HC8_g2.out.below bC HC8_g2.out.lt
    have HC10_gA : Hid (CellsAt w15 gA 48 #[.int .i64 KA.major, .int .i64 KA.minor, .slice qA kA jA, .slice aA lA.length cA]) := HC9_gA.out.below bC HC9_gA.out.lt
    have HR10_r : Hid (IsReg w15.heap.size w15 (.agg #[.int .i64 K.major, .int .i64 K.minor, .slice qe lk je, .slice a l.length cap]) K l) := (HR8_r.out.below bC).more bC.size
    have HR10_A : Hid (IsReg w15.heap.size w15 (.agg #[.int .i64 KA.major, .int .i64 KA.minor, .slice qA kA jA, .slice aA lA.length cA]) KA lA) := (HR8_A.out.below bC).more bC.size
    have HM10_m : Hid (IsMod w15.heap.size w15 (.agg #[.string M.name, .int .i64 M.major, .int .i64 M.minor, .string M.text, .slice pe le ke, .slice pi li ki, .slice pp lp kp]) M) := (HM8_m.out.below bC).more bC.size
    clear HB8 HC8_g1 HC8_g2 HC9_gA HR8_r HR8_A HM8_m
    obtain ⟨qC, jC, aC, cC, rfl⟩ := hiC.shape0
    generalize hkC : KC.exps.length = kC at *
    have HALC : Hid _ := haC
    have HRNC : Hid (IsReg w15.heap.size w15 (.agg #[.int .i64 KC.major, .int .i64 KC.minor, .slice qC kC jC, .slice aC lC.length cC]) KC lC) := hiC
    clear bC hiC haC hkC HUP
    have ba : Below w15.heap.size w15 (w15.alloc (.cells #[.int .i64 KC.major, .int .i64 KC.minor, .slice qC kC jC, .slice aC lC.length cC] 48)) := (Below.refl _ _).alloc (Nat.le_refl _) _
    have ol_g1_gC : w.heap.size < w15.heap.size := CellsAt.lt HC10_g1.out
    have ol_g2_gC : (w.heap.size + 1) < w15.heap.size := CellsAt.lt HC10_g2.out
    have ol_gA_gC : gA < w15.heap.size := CellsAt.lt HC10_gA.out
    have olw_gC : w.heap.size ≤ w15.heap.size := HB10.out.size
    have HB11 : Hid (Below w.heap.size w (w15.alloc (.cells #[.int .i64 KC.major, .int .i64 KC.minor, .slice qC kC jC, .slice aC lC.length cC] 48))) := HB10.out.trans (ba.mono HB10.out.size)
    have HC11_g1 : Hid (CellsAt (w15.alloc (.cells #[.int .i64 KC.major, .int .i64 KC.minor, .slice qC kC jC, .slice aC lC.length cC] 48)) w.heap.size 48 #[.int .i64 K.major, .int .i64 K.minor, .slice qe lk je, .slice a l.length cap]) := HC10_g1.out.below ba HC10_g1.out.lt
    have HC11_g2 : Hid (CellsAt (w15.alloc (.cells #[.int .i64 KC.major, .int .i64 KC.minor, .slice qC kC jC, .slice aC lC.length cC] 48)) (w.heap.size + 1) 39 #[.string M.name, .int .i64 M.major, .int .i64 M.minor, .string M.text, .slice pe le ke, .slice pi li ki, .slice pp lp kp]) := HC10_g2.out.below ba HC10_g2.out.lt
    have HC11_gA : Hid (CellsAt (w15.alloc (.cells #[.int .i64 KC.major, .int .i64 KC.minor, .slice qC kC jC, .slice aC lC.length cC] 48)) gA 48 #[.int .i64 KA.major, .int .i64 KA.minor, .slice qA kA jA, .slice aA lA.length cA]) := HC10_gA.out.below ba HC10_gA.out.lt
    have HR11_r : Hid (IsReg (w15.alloc (.cells #[.int .i64 KC.major, .int .i64 KC.minor, .slice qC kC jC, .slice aC lC.length cC] 48)).heap.size (w15.alloc (.cells #[.int .i64 KC.major, .int .i64 KC.minor, .slice qC kC jC, .slice aC lC.length cC] 48)) (.agg #[.int .i64 K.major, .int .i64 K.minor, .slice qe lk je, .slice a l.length cap]) K l) := (HR10_r.out.below ba).more ba.size
    have HR11_A : Hid (IsReg (w15.alloc (.cells #[.int .i64 KC.major, .int .i64 KC.minor, .slice qC kC jC, .slice aC lC.length cC] 48)).heap.size (w15.alloc (.cells #[.int .i64 KC.major, .int .i64 KC.minor, .slice qC kC jC, .slice aC lC.length cC] 48)) (.agg #[.int .i64 KA.major, .int .i64 KA.minor, .slice qA kA jA, .slice aA lA.length cA]) KA lA) := (HR10_A.out.below ba).more ba.size
    have HR11_C : Hid (IsReg (w15.alloc (.cells #[.int .i64 KC.major, .int .i64 KC.minor, .slice qC kC jC, .slice aC lC.length cC] 48)).heap.size (w15.alloc (.cells #[.int .i64 KC.major, .int .i64 KC.minor, .slice qC kC jC, .slice aC lC.length cC] 48)) (.agg #[.int .i64 KC.major, .int .i64 KC.minor, .slice qC kC jC, .slice aC lC.length cC]) KC lC) := (HRNC.out.below ba).more ba.size
    have HM11_m : Hid (IsMod (w15.alloc (.cells #[.int .i64 KC.major, .int .i64 KC.minor, .slice qC kC jC, .slice aC lC.length cC] 48)).heap.size (w15.alloc (.cells #[.int .i64 KC.major, .int .i64 KC.minor, .slice qC kC jC, .slice aC lC.length cC] 48)) (.agg #[.string M.name, .int .i64 M.major, .int .i64 M.minor, .string M.text, .slice pe le ke, .slice pi li ki, .slice pp lp kp]) M) := (HM10_m.out.below ba).more ba.size
    clear HB10 HC10_g1 HC10_g2 HC10_gA HR10_r HR10_A HRNC HM10_m
    clear ba
    have HC12_gC : Hid (CellsAt (w15.alloc (.cells #[.int .i64 KC.major, .int .i64 KC.minor, .slice qC kC jC, .slice aC lC.length cC] 48)) w15.heap.size 48 #[.int .i64 KC.major, .int .i64 KC.minor, .slice qC kC jC, .slice aC lC.length cC]) := CellsAt.new _ _ _
    go_upto_region 11 with fail
    generalize (w15.alloc (.cells #[.int .i64 KC.major, .int .i64 KC.minor, .slice qC kC jC, .slice aC lC.length cC] 48)) = w16 at *
    generalize w15.heap.size = gC at *
    rcases HALC.out with hal | ⟨hpe, hc2, j, x, hjx, hix, hcx, k, y, hky, hiy, hsame⟩
    · have hal2 : (eC != 0) = true := by simpa using hal.1
      have hal3 : lC = [] := hal.2
      subst hal3
      simp only [List.length_nil] at *
      clear hal HALC
      have rgC0 := CellsAt.cell HC12_gC.out 0
      have rgC1 := CellsAt.cell HC12_gC.out 1
      have rgC2 := CellsAt.cell HC12_gC.out 2
      have rgC3 := CellsAt.cell HC12_gC.out 3
      have rgCl := CellsAt.lt HC12_gC.out
      simp at rgC0 rgC1 rgC2 rgC3
      go_wp2
      go_ret
      exact ⟨rfl, HB11.out⟩
    · subst hpe
      clear HALC
      have hxm := List.mem_of_getElem? hjx
      have HSY : Hid _ := HSX.out x hxm hcx
      clear HSX hcx
      generalize szM x.mod = sx at *
      have HQ1 : Hid (∀ d os, Calls Tryz.prog 12 #[.slice a l.length cap, .string M.name] (grow (redrawn w16 d) os) fun e w' => e = .returned (.int .i64 (j : Int)) ∧ Below (grow (redrawn w16 d) os).heap.size (grow (redrawn w16 d) os) w') := fun d os => by
        have hb := below_regrown w16 d os
        have hpl : IsPlcs w16.heap.size w16 (.slice a l.length cap) l := by
          obtain ⟨_, _, ex, _, hpp⟩ := HR11_r.out
          injection ex with ex; simp at ex; obtain ⟨-, rfl⟩ := ex
          exact hpp
        have := HPO.out l _ _ ((hpl.1.below hb).more hb.size)
        rw [hix] at this
        exact this
      have HQ2 : Hid (∀ d os, Calls Tryz.prog 12 #[.slice aC lC.length cC, .string M.name] (grow (redrawn w16 d) os) fun e w' => e = .returned (.int .i64 (k : Int)) ∧ Below (grow (redrawn w16 d) os).heap.size (grow (redrawn w16 d) os) w') := fun d os => by
        have hb := below_regrown w16 d os
        have hpl : IsPlcs w16.heap.size w16 (.slice aC lC.length cC) lC := by
          obtain ⟨_, _, ex, _, hpp⟩ := HR11_C.out
          injection ex with ex; simp at ex; obtain ⟨-, rfl⟩ := ex
          exact hpp
        have := HPO.out lC _ _ ((hpl.1.below hb).more hb.size)
        rw [hiy] at this
        exact this
      clear HPO
      have rg10 := CellsAt.cell HC11_g1.out 0
      have rg11 := CellsAt.cell HC11_g1.out 1
      have rg12 := CellsAt.cell HC11_g1.out 2
      have rg13 := CellsAt.cell HC11_g1.out 3
      have rg1l := CellsAt.lt HC11_g1.out
      simp at rg10 rg11 rg12 rg13
      have rg20 := CellsAt.cell HC11_g2.out 0
      have rg21 := CellsAt.cell HC11_g2.out 1
      have rg22 := CellsAt.cell HC11_g2.out 2
      have rg23 := CellsAt.cell HC11_g2.out 3
      have rg24 := CellsAt.cell HC11_g2.out 4
      have rg25 := CellsAt.cell HC11_g2.out 5
      have rg26 := CellsAt.cell HC11_g2.out 6
      have rg2l := CellsAt.lt HC11_g2.out
      simp at rg20 rg21 rg22 rg23 rg24 rg25 rg26
      have rgC0 := CellsAt.cell HC12_gC.out 0
      have rgC1 := CellsAt.cell HC12_gC.out 1
      have rgC2 := CellsAt.cell HC12_gC.out 2
      have rgC3 := CellsAt.cell HC12_gC.out 3
      have rgCl := CellsAt.lt HC12_gC.out
      simp at rgC0 rgC1 rgC2 rgC3
      have z1 := cell_regrown rg13
      have z2 := cell_regrown rg20
      have z3 := cell_regrown rgC3
      go_wp2_with fail
      clear rg10 rg11 rg12 rg13 rg1l
      clear rg20 rg21 rg22 rg23 rg24 rg25 rg26 rg2l
      clear rgC0 rgC1 rgC2 rgC3 rgCl
      refine wp_region_quiet_below (by kernel_rfl) (by kernel_rfl) ?_
      go_big_quiet_step ((go_at_call 12; go_must (exact Calls.regrown_of (HQ1.out _ _))))
      go_big_quiet_step ((go_at_call 12; go_must (exact Calls.regrown_of (HQ1.out _ _))))
      go_big_quiet_step ((go_at_call 12; go_must (exact Calls.regrown_of (HQ1.out _ _))))
      go_big_quiet_step ((go_at_call 12; go_must (exact Calls.regrown_of (HQ1.out _ _))))
      go_big_quiet_step ((go_at_call 12; go_must (exact Calls.regrown_of (HQ1.out _ _))))
      repeat (go_big_quiet_step ((go_at_call 12; go_must (exact Calls.regrown_of (HQ2.out _ _)))))
      refine wpQuiet_nil ?_
      intro w17 hw'
      obtain ⟨⟨dq, osq⟩, hw''⟩ := hw'
      have bq := below_regrown w16 dq osq
      rw [← hw''] at bq
      clear hw''
      have HB13 : Hid (Below w.heap.size w w17) := HB11.out.trans (bq.mono HB11.out.size)
      have HC13_g1 : Hid (CellsAt w17 w.heap.size 48 #[.int .i64 K.major, .int .i64 K.minor, .slice qe lk je, .slice a l.length cap]) := HC11_g1.out.below bq HC11_g1.out.lt
      have HC13_g2 : Hid (CellsAt w17 (w.heap.size + 1) 39 #[.string M.name, .int .i64 M.major, .int .i64 M.minor, .string M.text, .slice pe le ke, .slice pi li ki, .slice pp lp kp]) := HC11_g2.out.below bq HC11_g2.out.lt
      have HC13_gA : Hid (CellsAt w17 gA 48 #[.int .i64 KA.major, .int .i64 KA.minor, .slice qA kA jA, .slice aA lA.length cA]) := HC11_gA.out.below bq HC11_gA.out.lt
      have HC13_gC : Hid (CellsAt w17 gC 48 #[.int .i64 KC.major, .int .i64 KC.minor, .slice qC kC jC, .slice aC lC.length cC]) := HC12_gC.out.below bq HC12_gC.out.lt
      have HR13_r : Hid (IsReg w17.heap.size w17 (.agg #[.int .i64 K.major, .int .i64 K.minor, .slice qe lk je, .slice a l.length cap]) K l) := (HR11_r.out.below bq).more bq.size
      have HR13_A : Hid (IsReg w17.heap.size w17 (.agg #[.int .i64 KA.major, .int .i64 KA.minor, .slice qA kA jA, .slice aA lA.length cA]) KA lA) := (HR11_A.out.below bq).more bq.size
      have HR13_C : Hid (IsReg w17.heap.size w17 (.agg #[.int .i64 KC.major, .int .i64 KC.minor, .slice qC kC jC, .slice aC lC.length cC]) KC lC) := (HR11_C.out.below bq).more bq.size
      have HM13_m : Hid (IsMod w17.heap.size w17 (.agg #[.string M.name, .int .i64 M.major, .int .i64 M.minor, .string M.text, .slice pe le ke, .slice pi li ki, .slice pp lp kp]) M) := (HM11_m.out.below bq).more bq.size
      clear HB11 HC11_g1 HC11_g2 HC11_gA HC12_gC HR11_r HR11_A HR11_C HM11_m
      clear bq
      clear z1 z2 z3 HQ1 HQ2
      have hj0 : decide ((j : Int) < 0) = false := decide_eq_false (by omega)
      have hk0 : decide ((k : Int) < 0) = false := decide_eq_false (by omega)
      have rg10 := CellsAt.cell HC13_g1.out 0
      have rg11 := CellsAt.cell HC13_g1.out 1
      have rg12 := CellsAt.cell HC13_g1.out 2
      have rg13 := CellsAt.cell HC13_g1.out 3
      have rg1l := CellsAt.lt HC13_g1.out
      simp at rg10 rg11 rg12 rg13
      have rg20 := CellsAt.cell HC13_g2.out 0
      have rg21 := CellsAt.cell HC13_g2.out 1
      have rg22 := CellsAt.cell HC13_g2.out 2
      have rg23 := CellsAt.cell HC13_g2.out 3
      have rg24 := CellsAt.cell HC13_g2.out 4
      have rg25 := CellsAt.cell HC13_g2.out 5
      have rg26 := CellsAt.cell HC13_g2.out 6
      have rg2l := CellsAt.lt HC13_g2.out
      simp at rg20 rg21 rg22 rg23 rg24 rg25 rg26
      have rgC0 := CellsAt.cell HC13_gC.out 0
      have rgC1 := CellsAt.cell HC13_gC.out 1
      have rgC2 := CellsAt.cell HC13_gC.out 2
      have rgC3 := CellsAt.cell HC13_gC.out 3
      have rgCl := CellsAt.lt HC13_gC.out
      simp at rgC0 rgC1 rgC2 rgC3
      go_wp2_with fail
      clear rg10 rg11 rg12 rg13 rg1l
      clear rg20 rg21 rg22 rg23 rg24 rg25 rg26 rg2l
      clear rgC0 rgC1 rgC2 rgC3 rgCl
      refine (HSZ.out hc2 _ HM13_m.out).mono ?_
      rintro e w18 ⟨rfl, b18⟩
      have HB14 : Hid (Below w.heap.size w w18) := HB13.out.trans (b18.mono HB13.out.size)
      have HC14_g1 : Hid (CellsAt w18 w.heap.size 48 #[.int .i64 K.major, .int .i64 K.minor, .slice qe lk je, .slice a l.length cap]) := HC13_g1.out.below b18 HC13_g1.out.lt
      have HC14_g2 : Hid (CellsAt w18 (w.heap.size + 1) 39 #[.string M.name, .int .i64 M.major, .int .i64 M.minor, .string M.text, .slice pe le ke, .slice pi li ki, .slice pp lp kp]) := HC13_g2.out.below b18 HC13_g2.out.lt
      have HC14_gA : Hid (CellsAt w18 gA 48 #[.int .i64 KA.major, .int .i64 KA.minor, .slice qA kA jA, .slice aA lA.length cA]) := HC13_gA.out.below b18 HC13_gA.out.lt
      have HC14_gC : Hid (CellsAt w18 gC 48 #[.int .i64 KC.major, .int .i64 KC.minor, .slice qC kC jC, .slice aC lC.length cC]) := HC13_gC.out.below b18 HC13_gC.out.lt
      have HR14_r : Hid (IsReg w18.heap.size w18 (.agg #[.int .i64 K.major, .int .i64 K.minor, .slice qe lk je, .slice a l.length cap]) K l) := (HR13_r.out.below b18).more b18.size
      have HR14_A : Hid (IsReg w18.heap.size w18 (.agg #[.int .i64 KA.major, .int .i64 KA.minor, .slice qA kA jA, .slice aA lA.length cA]) KA lA) := (HR13_A.out.below b18).more b18.size
      have HR14_C : Hid (IsReg w18.heap.size w18 (.agg #[.int .i64 KC.major, .int .i64 KC.minor, .slice qC kC jC, .slice aC lC.length cC]) KC lC) := (HR13_C.out.below b18).more b18.size
      have HM14_m : Hid (IsMod w18.heap.size w18 (.agg #[.string M.name, .int .i64 M.major, .int .i64 M.minor, .string M.text, .slice pe le ke, .slice pi li ki, .slice pp lp kp]) M) := (HM13_m.out.below b18).more b18.size
      clear HB13 HC13_g1 HC13_g2 HC13_gA HC13_gC HR13_r HR13_A HR13_C HM13_m
      clear b18
      have hpl : IsPlcs w18.heap.size w18 (.slice a l.length cap) l := by
        obtain ⟨_, _, ex, _, hpp⟩ := HR14_r.out
        injection ex with ex; simp at ex; obtain ⟨-, rfl⟩ := ex
        exact hpp
      have HPL : Hid (IsPlcs w18.heap.size w18 (.slice a l.length cap) l) := hpl
      obtain ⟨a8, c8, e8, hmxr, hrw⟩ := hpl.1
      injection e8 with e8 _ e9
      subst e8 e9
      clear hpl
      have hklr : (j : Int) < (l.length : Int) := by have := (List.getElem?_eq_some_iff.1 hjx).1; omega
      rcases hrw with h | ⟨bR, oR, rfl, hbnr, hcells⟩
      · subst h; simp at hjx
      have HF0r : Hid (w18.cell? ⟨bR, oR + j * 8 + 7, none⟩ = some (.int .i64 x.first) ∧ bR < w18.heap.size) := ⟨hcells j x hjx 7 (by omega), hbnr⟩
      have c0 := hcells j x hjx 0 (by omega)
      have c1 := hcells j x hjx 1 (by omega)
      have c2 := hcells j x hjx 2 (by omega)
      have c3 := hcells j x hjx 3 (by omega)
      have c4 := hcells j x hjx 4 (by omega)
      have c5 := hcells j x hjx 5 (by omega)
      have c6 := hcells j x hjx 6 (by omega)
      have HPX : Hid (PlcAt w18.heap.size w18 x) := HPL.out.2 x hxm
      have hpx := HPX.out
      obtain ⟨⟨pe', ke', e4', -⟩, ⟨pi', ki', e5', -⟩, ⟨pp', kp', e6', -⟩⟩ := hpx
      obtain ⟨⟨N', xa', xi', T', es', is', ps'⟩, vxe', vxi', vxp', fi'⟩ := x
      dsimp only at e4' e5' e6'
      subst e4' e5' e6'
      dsimp only [PV.cell, PV.modV] at *
      rw [Nat.add_zero] at c0
      clear hcells HPL hjx hxm hbnr
      generalize es'.length = le' at *
      generalize is'.length = li' at *
      generalize ps'.length = lp' at *
      have rg10 := CellsAt.cell HC14_g1.out 0
      have rg11 := CellsAt.cell HC14_g1.out 1
      have rg12 := CellsAt.cell HC14_g1.out 2
      have rg13 := CellsAt.cell HC14_g1.out 3
      have rg1l := CellsAt.lt HC14_g1.out
      simp at rg10 rg11 rg12 rg13
      have rg20 := CellsAt.cell HC14_g2.out 0
      have rg21 := CellsAt.cell HC14_g2.out 1
      have rg22 := CellsAt.cell HC14_g2.out 2
      have rg23 := CellsAt.cell HC14_g2.out 3
      have rg24 := CellsAt.cell HC14_g2.out 4
      have rg25 := CellsAt.cell HC14_g2.out 5
      have rg26 := CellsAt.cell HC14_g2.out 6
      have rg2l := CellsAt.lt HC14_g2.out
      simp at rg20 rg21 rg22 rg23 rg24 rg25 rg26
      have rgC0 := CellsAt.cell HC14_gC.out 0
      have rgC1 := CellsAt.cell HC14_gC.out 1
      have rgC2 := CellsAt.cell HC14_gC.out 2
      have rgC3 := CellsAt.cell HC14_gC.out 3
      have rgCl := CellsAt.lt HC14_gC.out
      simp at rgC0 rgC1 rgC2 rgC3
      go_wp2_with fail
      clear rg10 rg11 rg12 rg13 rg1l
      clear rg20 rg21 rg22 rg23 rg24 rg25 rg26 rg2l
      clear rgC0 rgC1 rgC2 rgC3 rgCl
      refine (HSY.out _ HPX.out).mono ?_
      clear HSY HPX c0 c1 c2 c3 c4 c5 c6
      rintro e w19 ⟨rfl, b19⟩
      have HB15 : Hid (Below w.heap.size w w19) := HB14.out.trans (b19.mono HB14.out.size)
      have HC15_g1 : Hid (CellsAt w19 w.heap.size 48 #[.int .i64 K.major, .int .i64 K.minor, .slice qe lk je, .slice (some ⟨bR, oR, none⟩) l.length cap]) := HC14_g1.out.below b19 HC14_g1.out.lt
      have HC15_g2 : Hid (CellsAt w19 (w.heap.size + 1) 39 #[.string M.name, .int .i64 M.major, .int .i64 M.minor, .string M.text, .slice pe le ke, .slice pi li ki, .slice pp lp kp]) := HC14_g2.out.below b19 HC14_g2.out.lt
      have HC15_gA : Hid (CellsAt w19 gA 48 #[.int .i64 KA.major, .int .i64 KA.minor, .slice qA kA jA, .slice aA lA.length cA]) := HC14_gA.out.below b19 HC14_gA.out.lt
      have HC15_gC : Hid (CellsAt w19 gC 48 #[.int .i64 KC.major, .int .i64 KC.minor, .slice qC kC jC, .slice aC lC.length cC]) := HC14_gC.out.below b19 HC14_gC.out.lt
      have HR15_r : Hid (IsReg w19.heap.size w19 (.agg #[.int .i64 K.major, .int .i64 K.minor, .slice qe lk je, .slice (some ⟨bR, oR, none⟩) l.length cap]) K l) := (HR14_r.out.below b19).more b19.size
      have HR15_A : Hid (IsReg w19.heap.size w19 (.agg #[.int .i64 KA.major, .int .i64 KA.minor, .slice qA kA jA, .slice aA lA.length cA]) KA lA) := (HR14_A.out.below b19).more b19.size
      have HR15_C : Hid (IsReg w19.heap.size w19 (.agg #[.int .i64 KC.major, .int .i64 KC.minor, .slice qC kC jC, .slice aC lC.length cC]) KC lC) := (HR14_C.out.below b19).more b19.size
      have HM15_m : Hid (IsMod w19.heap.size w19 (.agg #[.string M.name, .int .i64 M.major, .int .i64 M.minor, .string M.text, .slice pe le ke, .slice pi li ki, .slice pp lp kp]) M) := (HM14_m.out.below b19).more b19.size
      have HF15_r : Hid (w19.cell? ⟨bR, oR + j * 8 + 7, none⟩ = some (.int .i64 fi') ∧ bR < w19.heap.size) := ⟨(b19.cell (p := ⟨bR, oR + j * 8 + 7, none⟩) HF0r.out.2).trans HF0r.out.1, Nat.lt_of_lt_of_le HF0r.out.2 b19.size⟩
      clear HB14 HC14_g1 HC14_g2 HC14_gA HC14_gC HR14_r HR14_A HR14_C HM14_m HF0r
      clear b19
      have hpl : IsPlcs w19.heap.size w19 (.slice aC lC.length cC) lC := by
        obtain ⟨_, _, ex, _, hpp⟩ := HR15_C.out
        injection ex with ex; simp at ex; obtain ⟨-, rfl⟩ := ex
        exact hpp
      have HPL : Hid (IsPlcs w19.heap.size w19 (.slice aC lC.length cC) lC) := hpl
      obtain ⟨a8, c8, e8, hmxC, hrw⟩ := hpl.1
      injection e8 with e8 _ e9
      subst e8 e9
      clear hpl
      have hklC : (k : Int) < (lC.length : Int) := by have := (List.getElem?_eq_some_iff.1 hky).1; omega
      rcases hrw with h | ⟨bC, oC, rfl, hbnC, hcells⟩
      · subst h; simp at hky
      have HF0C : Hid (w19.cell? ⟨bC, oC + k * 8 + 7, none⟩ = some (.int .i64 y.first) ∧ bC < w19.heap.size) := ⟨hcells k y hky 7 (by omega), hbnC⟩
      clear hcells HPL hky hbnC
      have rg13 := CellsAt.cell HC15_g1.out 3
      have rg1l := CellsAt.lt HC15_g1.out
      simp at rg13
      have rgC3 := CellsAt.cell HC15_gC.out 3
      have rgCl := CellsAt.lt HC15_gC.out
      simp at rgC3
      have z1 := cell_regrown rg13
      have z3 := cell_regrown rgC3
      have z4 := cell_regrown HF15_r.out.1
      have z5 := cell_regrown HF0C.out.1
      by_cases hsz : (sx : Int) < (szM M : Int)
      · have hs1 : decide ((sx : Int) < (szM M : Int)) = true := decide_eq_true hsz
        have hs2 : decide ((szM M : Int) > (sx : Int)) = true := decide_eq_true hsz
        go_wp2_with fail
        refine wp_region_quiet_below (by kernel_rfl) (by kernel_rfl) ?_
        repeat (go_big_quiet_step (fail))
        refine wpQuiet_nil ?_
        intro w20 hw'
        obtain ⟨⟨dq, osq⟩, hw''⟩ := hw'
        have bq := below_regrown w19 dq osq
        rw [← hw''] at bq
        clear hw''
        have HB16 : Hid (Below w.heap.size w w20) := HB15.out.trans (bq.mono HB15.out.size)
        have HC16_g1 : Hid (CellsAt w20 w.heap.size 48 #[.int .i64 K.major, .int .i64 K.minor, .slice qe lk je, .slice (some ⟨bR, oR, none⟩) l.length cap]) := HC15_g1.out.below bq HC15_g1.out.lt
        have HC16_g2 : Hid (CellsAt w20 (w.heap.size + 1) 39 #[.string M.name, .int .i64 M.major, .int .i64 M.minor, .string M.text, .slice pe le ke, .slice pi li ki, .slice pp lp kp]) := HC15_g2.out.below bq HC15_g2.out.lt
        have HC16_gA : Hid (CellsAt w20 gA 48 #[.int .i64 KA.major, .int .i64 KA.minor, .slice qA kA jA, .slice aA lA.length cA]) := HC15_gA.out.below bq HC15_gA.out.lt
        have HC16_gC : Hid (CellsAt w20 gC 48 #[.int .i64 KC.major, .int .i64 KC.minor, .slice qC kC jC, .slice (some ⟨bC, oC, none⟩) lC.length cC]) := HC15_gC.out.below bq HC15_gC.out.lt
        have HR16_r : Hid (IsReg w20.heap.size w20 (.agg #[.int .i64 K.major, .int .i64 K.minor, .slice qe lk je, .slice (some ⟨bR, oR, none⟩) l.length cap]) K l) := (HR15_r.out.below bq).more bq.size
        have HR16_A : Hid (IsReg w20.heap.size w20 (.agg #[.int .i64 KA.major, .int .i64 KA.minor, .slice qA kA jA, .slice aA lA.length cA]) KA lA) := (HR15_A.out.below bq).more bq.size
        have HR16_C : Hid (IsReg w20.heap.size w20 (.agg #[.int .i64 KC.major, .int .i64 KC.minor, .slice qC kC jC, .slice (some ⟨bC, oC, none⟩) lC.length cC]) KC lC) := (HR15_C.out.below bq).more bq.size
        have HM16_m : Hid (IsMod w20.heap.size w20 (.agg #[.string M.name, .int .i64 M.major, .int .i64 M.minor, .string M.text, .slice pe le ke, .slice pi li ki, .slice pp lp kp]) M) := (HM15_m.out.below bq).more bq.size
        have HF16_r : Hid (w20.cell? ⟨bR, oR + j * 8 + 7, none⟩ = some (.int .i64 fi') ∧ bR < w20.heap.size) := ⟨(bq.cell (p := ⟨bR, oR + j * 8 + 7, none⟩) HF15_r.out.2).trans HF15_r.out.1, Nat.lt_of_lt_of_le HF15_r.out.2 bq.size⟩
        have HF16_C : Hid (w20.cell? ⟨bC, oC + k * 8 + 7, none⟩ = some (.int .i64 y.first) ∧ bC < w20.heap.size) := ⟨(bq.cell (p := ⟨bC, oC + k * 8 + 7, none⟩) HF0C.out.2).trans HF0C.out.1, Nat.lt_of_lt_of_le HF0C.out.2 bq.size⟩
        clear HB15 HC15_g1 HC15_g2 HC15_gA HC15_gC HR15_r HR15_A HR15_C HM15_m HF15_r HF0C
        clear bq
        go_wp2
        go_ret
        exact ⟨rfl, HB16.out⟩
      · have hs1 : decide ((sx : Int) < (szM M : Int)) = false := decide_eq_false hsz
        have hs2 : decide ((szM M : Int) > (sx : Int)) = false := decide_eq_false hsz
        have hs3 : decide (sx < szM M) = false := decide_eq_false (by omega)
        have hs4 : ¬ sx < szM M := by omega
        have hs5 : szM M ≤ sx := by omega
        have hyf := hsame (by omega)
        rw [hyf] at z5
        have hff : (fi' == fi') = true := by simp
        go_wp2_with fail
        refine wp_region_quiet_below (by kernel_rfl) (by kernel_rfl) ?_
        repeat (go_big_quiet_step (fail))
        refine wpQuiet_nil ?_
        intro w20 hw'
        obtain ⟨⟨dq, osq⟩, hw''⟩ := hw'
        have bq := below_regrown w19 dq osq
        rw [← hw''] at bq
        clear hw''
        have HB16 : Hid (Below w.heap.size w w20) := HB15.out.trans (bq.mono HB15.out.size)
        have HC16_g1 : Hid (CellsAt w20 w.heap.size 48 #[.int .i64 K.major, .int .i64 K.minor, .slice qe lk je, .slice (some ⟨bR, oR, none⟩) l.length cap]) := HC15_g1.out.below bq HC15_g1.out.lt
        have HC16_g2 : Hid (CellsAt w20 (w.heap.size + 1) 39 #[.string M.name, .int .i64 M.major, .int .i64 M.minor, .string M.text, .slice pe le ke, .slice pi li ki, .slice pp lp kp]) := HC15_g2.out.below bq HC15_g2.out.lt
        have HC16_gA : Hid (CellsAt w20 gA 48 #[.int .i64 KA.major, .int .i64 KA.minor, .slice qA kA jA, .slice aA lA.length cA]) := HC15_gA.out.below bq HC15_gA.out.lt
        have HC16_gC : Hid (CellsAt w20 gC 48 #[.int .i64 KC.major, .int .i64 KC.minor, .slice qC kC jC, .slice (some ⟨bC, oC, none⟩) lC.length cC]) := HC15_gC.out.below bq HC15_gC.out.lt
        have HR16_r : Hid (IsReg w20.heap.size w20 (.agg #[.int .i64 K.major, .int .i64 K.minor, .slice qe lk je, .slice (some ⟨bR, oR, none⟩) l.length cap]) K l) := (HR15_r.out.below bq).more bq.size
        have HR16_A : Hid (IsReg w20.heap.size w20 (.agg #[.int .i64 KA.major, .int .i64 KA.minor, .slice qA kA jA, .slice aA lA.length cA]) KA lA) := (HR15_A.out.below bq).more bq.size
        have HR16_C : Hid (IsReg w20.heap.size w20 (.agg #[.int .i64 KC.major, .int .i64 KC.minor, .slice qC kC jC, .slice (some ⟨bC, oC, none⟩) lC.length cC]) KC lC) := (HR15_C.out.below bq).more bq.size
        have HM16_m : Hid (IsMod w20.heap.size w20 (.agg #[.string M.name, .int .i64 M.major, .int .i64 M.minor, .string M.text, .slice pe le ke, .slice pi li ki, .slice pp lp kp]) M) := (HM15_m.out.below bq).more bq.size
        have HF16_r : Hid (w20.cell? ⟨bR, oR + j * 8 + 7, none⟩ = some (.int .i64 fi') ∧ bR < w20.heap.size) := ⟨(bq.cell (p := ⟨bR, oR + j * 8 + 7, none⟩) HF15_r.out.2).trans HF15_r.out.1, Nat.lt_of_lt_of_le HF15_r.out.2 bq.size⟩
        have HF16_C : Hid (w20.cell? ⟨bC, oC + k * 8 + 7, none⟩ = some (.int .i64 y.first) ∧ bC < w20.heap.size) := ⟨(bq.cell (p := ⟨bC, oC + k * 8 + 7, none⟩) HF0C.out.2).trans HF0C.out.1, Nat.lt_of_lt_of_le HF0C.out.2 bq.size⟩
        clear HB15 HC15_g1 HC15_g2 HC15_gA HC15_gC HR15_r HR15_A HR15_C HM15_m HF15_r HF0C
        clear bq
        go_wp2
        go_ret
        exact ⟨rfl, HB16.out⟩
  · subst hpe hyf
    clear HALA
    have rg10 := CellsAt.cell HC8_g1.out 0
    have rg11 := CellsAt.cell HC8_g1.out 1
    have rg12 := CellsAt.cell HC8_g1.out 2
    have rg13 := CellsAt.cell HC8_g1.out 3
    have rg1l := CellsAt.lt HC8_g1.out
    simp at rg10 rg11 rg12 rg13
    have rg20 := CellsAt.cell HC8_g2.out 0
    have rg21 := CellsAt.cell HC8_g2.out 1
    have rg22 := CellsAt.cell HC8_g2.out 2
    have rg23 := CellsAt.cell HC8_g2.out 3
    have rg24 := CellsAt.cell HC8_g2.out 4
    have rg25 := CellsAt.cell HC8_g2.out 5
    have rg26 := CellsAt.cell HC8_g2.out 6
    have rg2l := CellsAt.lt HC8_g2.out
    simp at rg20 rg21 rg22 rg23 rg24 rg25 rg26
    have rgA0 := CellsAt.cell HC9_gA.out 0
    have rgA1 := CellsAt.cell HC9_gA.out 1
    have rgA2 := CellsAt.cell HC9_gA.out 2
    have rgA3 := CellsAt.cell HC9_gA.out 3
    have rgAl := CellsAt.lt HC9_gA.out
    simp at rgA0 rgA1 rgA2 rgA3
    go_wp2_with fail
    clear rg10 rg11 rg12 rg13 rg1l
    clear rg20 rg21 rg22 rg23 rg24 rg25 rg26 rg2l
    clear rgA0 rgA1 rgA2 rgA3 rgAl
    refine (HSZ.out hc2 _ HM8_m.out).mono ?_
    rintro e w7 ⟨rfl, b7⟩
    have HB10 : Hid (Below w.heap.size w w7) := HB8.out.trans (b7.mono HB8.out.size)
    have HC10_g1 : Hid (CellsAt w7 w.heap.size 48 #[.int .i64 K.major, .int .i64 K.minor, .slice qe lk je, .slice a l.length cap]) := HC8_g1.out.below b7 HC8_g1.out.lt
    have HC10_g2 : Hid (CellsAt w7 (w.heap.size + 1) 39 #[.string M.name, .int .i64 M.major, .int .i64 M.minor, .string M.text, .slice pe le ke, .slice pi li ki, .slice pp lp kp]) := HC8_g2.out.below b7 HC8_g2.out.lt
    have HC10_gA : Hid (CellsAt w7 gA 48 #[.int .i64 KA.major, .int .i64 KA.minor, .slice qA kA jA, .slice aA lA.length cA]) := HC9_gA.out.below b7 HC9_gA.out.lt
    have HR10_r : Hid (IsReg w7.heap.size w7 (.agg #[.int .i64 K.major, .int .i64 K.minor, .slice qe lk je, .slice a l.length cap]) K l) := (HR8_r.out.below b7).more b7.size
    have HR10_A : Hid (IsReg w7.heap.size w7 (.agg #[.int .i64 KA.major, .int .i64 KA.minor, .slice qA kA jA, .slice aA lA.length cA]) KA lA) := (HR8_A.out.below b7).more b7.size
    have HM10_m : Hid (IsMod w7.heap.size w7 (.agg #[.string M.name, .int .i64 M.major, .int .i64 M.minor, .string M.text, .slice pe le ke, .slice pi li ki, .slice pp lp kp]) M) := (HM8_m.out.below b7).more b7.size
    clear HB8 HC8_g1 HC8_g2 HC9_gA HR8_r HR8_A HM8_m
    clear b7
    have rg10 := CellsAt.cell HC10_g1.out 0
    have rg11 := CellsAt.cell HC10_g1.out 1
    have rg12 := CellsAt.cell HC10_g1.out 2
    have rg13 := CellsAt.cell HC10_g1.out 3
    have rg1l := CellsAt.lt HC10_g1.out
    simp at rg10 rg11 rg12 rg13
    have rg20 := CellsAt.cell HC10_g2.out 0
    have rg21 := CellsAt.cell HC10_g2.out 1
    have rg22 := CellsAt.cell HC10_g2.out 2
    have rg23 := CellsAt.cell HC10_g2.out 3
    have rg24 := CellsAt.cell HC10_g2.out 4
    have rg25 := CellsAt.cell HC10_g2.out 5
    have rg26 := CellsAt.cell HC10_g2.out 6
    have rg2l := CellsAt.lt HC10_g2.out
    simp at rg20 rg21 rg22 rg23 rg24 rg25 rg26
    have rgA0 := CellsAt.cell HC10_gA.out 0
    have rgA1 := CellsAt.cell HC10_gA.out 1
    have rgA2 := CellsAt.cell HC10_gA.out 2
    have rgA3 := CellsAt.cell HC10_gA.out 3
    have rgAl := CellsAt.lt HC10_gA.out
    simp at rgA0 rgA1 rgA2 rgA3
    go_wp2_with fail
    clear rg10 rg11 rg12 rg13 rg1l
    clear rg20 rg21 rg22 rg23 rg24 rg25 rg26 rg2l
    clear rgA0 rgA1 rgA2 rgA3 rgAl
    have hpl : IsPlcs w7.heap.size w7 (.slice a l.length cap) l := by
      obtain ⟨_, _, ex, _, hpp⟩ := HR10_r.out
      injection ex with ex; simp at ex; obtain ⟨-, rfl⟩ := ex
      exact hpp
    refine (HFS.out _ _ hpl).mono ?_
    rw [hfr]
    clear hpl HFS hfr
    rintro e w8 ⟨rfl, b8⟩
    have HB11 : Hid (Below w.heap.size w w8) := HB10.out.trans (b8.mono HB10.out.size)
    have HC11_g1 : Hid (CellsAt w8 w.heap.size 48 #[.int .i64 K.major, .int .i64 K.minor, .slice qe lk je, .slice a l.length cap]) := HC10_g1.out.below b8 HC10_g1.out.lt
    have HC11_g2 : Hid (CellsAt w8 (w.heap.size + 1) 39 #[.string M.name, .int .i64 M.major, .int .i64 M.minor, .string M.text, .slice pe le ke, .slice pi li ki, .slice pp lp kp]) := HC10_g2.out.below b8 HC10_g2.out.lt
    have HC11_gA : Hid (CellsAt w8 gA 48 #[.int .i64 KA.major, .int .i64 KA.minor, .slice qA kA jA, .slice aA lA.length cA]) := HC10_gA.out.below b8 HC10_gA.out.lt
    have HR11_r : Hid (IsReg w8.heap.size w8 (.agg #[.int .i64 K.major, .int .i64 K.minor, .slice qe lk je, .slice a l.length cap]) K l) := (HR10_r.out.below b8).more b8.size
    have HR11_A : Hid (IsReg w8.heap.size w8 (.agg #[.int .i64 KA.major, .int .i64 KA.minor, .slice qA kA jA, .slice aA lA.length cA]) KA lA) := (HR10_A.out.below b8).more b8.size
    have HM11_m : Hid (IsMod w8.heap.size w8 (.agg #[.string M.name, .int .i64 M.major, .int .i64 M.minor, .string M.text, .slice pe le ke, .slice pi li ki, .slice pp lp kp]) M) := (HM10_m.out.below b8).more b8.size
    clear HB10 HC10_g1 HC10_g2 HC10_gA HR10_r HR10_A HM10_m
    clear b8
    have rg10 := CellsAt.cell HC11_g1.out 0
    have rg11 := CellsAt.cell HC11_g1.out 1
    have rg12 := CellsAt.cell HC11_g1.out 2
    have rg13 := CellsAt.cell HC11_g1.out 3
    have rg1l := CellsAt.lt HC11_g1.out
    simp at rg10 rg11 rg12 rg13
    have rg20 := CellsAt.cell HC11_g2.out 0
    have rg21 := CellsAt.cell HC11_g2.out 1
    have rg22 := CellsAt.cell HC11_g2.out 2
    have rg23 := CellsAt.cell HC11_g2.out 3
    have rg24 := CellsAt.cell HC11_g2.out 4
    have rg25 := CellsAt.cell HC11_g2.out 5
    have rg26 := CellsAt.cell HC11_g2.out 6
    have rg2l := CellsAt.lt HC11_g2.out
    simp at rg20 rg21 rg22 rg23 rg24 rg25 rg26
    have rgA0 := CellsAt.cell HC11_gA.out 0
    have rgA1 := CellsAt.cell HC11_gA.out 1
    have rgA2 := CellsAt.cell HC11_gA.out 2
    have rgA3 := CellsAt.cell HC11_gA.out 3
    have rgAl := CellsAt.lt HC11_gA.out
    simp at rgA0 rgA1 rgA2 rgA3
    go_wp2_with fail
    clear rg10 rg11 rg12 rg13 rg1l
    clear rg20 rg21 rg22 rg23 rg24 rg25 rg26 rg2l
    clear rgA0 rgA1 rgA2 rgA3 rgAl
    have hpl : IsPlcs w8.heap.size w8 (.slice aA lA.length cA) lA := by
      obtain ⟨_, _, ex, _, hpp⟩ := HR11_A.out
      injection ex with ex; simp at ex; obtain ⟨-, rfl⟩ := ex
      exact hpp
    have HPL : Hid (IsPlcs w8.heap.size w8 (.slice aA lA.length cA) lA) := hpl
    obtain ⟨a8, c8, e8, hmxA, hrw⟩ := hpl.1
    injection e8 with e8 _ e9
    subst e8 e9
    clear hpl
    have hklA : (k : Int) < (lA.length : Int) := by have := (List.getElem?_eq_some_iff.1 hky).1; omega
    rcases hrw with h | ⟨bA, oA, rfl, hbnA, hcells⟩
    · subst h; simp at hky
    have HF0A : Hid (w8.cell? ⟨bA, oA + k * 8 + 7, none⟩ = some (.int .i64 y.first) ∧ bA < w8.heap.size) := ⟨hcells k y hky 7 (by omega), hbnA⟩
    refine (HPO.out lA _ _ HPL.out.1).mono ?_
    rw [hiy]
    clear HPL hcells hbnA hmxA hky hiy
    rintro e w9 ⟨rfl, b9⟩
    have HB12 : Hid (Below w.heap.size w w9) := HB11.out.trans (b9.mono HB11.out.size)
    have HC12_g1 : Hid (CellsAt w9 w.heap.size 48 #[.int .i64 K.major, .int .i64 K.minor, .slice qe lk je, .slice a l.length cap]) := HC11_g1.out.below b9 HC11_g1.out.lt
    have HC12_g2 : Hid (CellsAt w9 (w.heap.size + 1) 39 #[.string M.name, .int .i64 M.major, .int .i64 M.minor, .string M.text, .slice pe le ke, .slice pi li ki, .slice pp lp kp]) := HC11_g2.out.below b9 HC11_g2.out.lt
    have HC12_gA : Hid (CellsAt w9 gA 48 #[.int .i64 KA.major, .int .i64 KA.minor, .slice qA kA jA, .slice (some ⟨bA, oA, none⟩) lA.length cA]) := HC11_gA.out.below b9 HC11_gA.out.lt
    have HR12_r : Hid (IsReg w9.heap.size w9 (.agg #[.int .i64 K.major, .int .i64 K.minor, .slice qe lk je, .slice a l.length cap]) K l) := (HR11_r.out.below b9).more b9.size
    have HR12_A : Hid (IsReg w9.heap.size w9 (.agg #[.int .i64 KA.major, .int .i64 KA.minor, .slice qA kA jA, .slice (some ⟨bA, oA, none⟩) lA.length cA]) KA lA) := (HR11_A.out.below b9).more b9.size
    have HM12_m : Hid (IsMod w9.heap.size w9 (.agg #[.string M.name, .int .i64 M.major, .int .i64 M.minor, .string M.text, .slice pe le ke, .slice pi li ki, .slice pp lp kp]) M) := (HM11_m.out.below b9).more b9.size
    have HF12_A : Hid (w9.cell? ⟨bA, oA + k * 8 + 7, none⟩ = some (.int .i64 y.first) ∧ bA < w9.heap.size) := ⟨(b9.cell (p := ⟨bA, oA + k * 8 + 7, none⟩) HF0A.out.2).trans HF0A.out.1, Nat.lt_of_lt_of_le HF0A.out.2 b9.size⟩
    clear HB11 HC11_g1 HC11_g2 HC11_gA HR11_r HR11_A HM11_m HF0A
    clear b9
    have ry7 := HF12_A.out.1
    have hk0 : decide ((k : Int) < 0) = false := decide_eq_false (by omega)
    have hff : (y.first != y.first) = false := by simp
    have rg10 := CellsAt.cell HC12_g1.out 0
    have rg11 := CellsAt.cell HC12_g1.out 1
    have rg12 := CellsAt.cell HC12_g1.out 2
    have rg13 := CellsAt.cell HC12_g1.out 3
    have rg1l := CellsAt.lt HC12_g1.out
    simp at rg10 rg11 rg12 rg13
    have rg20 := CellsAt.cell HC12_g2.out 0
    have rg21 := CellsAt.cell HC12_g2.out 1
    have rg22 := CellsAt.cell HC12_g2.out 2
    have rg23 := CellsAt.cell HC12_g2.out 3
    have rg24 := CellsAt.cell HC12_g2.out 4
    have rg25 := CellsAt.cell HC12_g2.out 5
    have rg26 := CellsAt.cell HC12_g2.out 6
    have rg2l := CellsAt.lt HC12_g2.out
    simp at rg20 rg21 rg22 rg23 rg24 rg25 rg26
    have rgA0 := CellsAt.cell HC12_gA.out 0
    have rgA1 := CellsAt.cell HC12_gA.out 1
    have rgA2 := CellsAt.cell HC12_gA.out 2
    have rgA3 := CellsAt.cell HC12_gA.out 3
    have rgAl := CellsAt.lt HC12_gA.out
    simp at rgA0 rgA1 rgA2 rgA3
    go_upto_region 10 with fail
    clear rg10 rg11 rg12 rg13 rg1l
    clear rg20 rg21 rg22 rg23 rg24 rg25 rg26 rg2l
    clear rgA0 rgA1 rgA2 rgA3 rgAl
    clear ry7 hk0 hff hklA
    have rg10 := CellsAt.cell HC12_g1.out 0
    have rg11 := CellsAt.cell HC12_g1.out 1
    have rg12 := CellsAt.cell HC12_g1.out 2
    have rg13 := CellsAt.cell HC12_g1.out 3
    have rg1l := CellsAt.lt HC12_g1.out
    simp at rg10 rg11 rg12 rg13
    have rg20 := CellsAt.cell HC12_g2.out 0
    have rg21 := CellsAt.cell HC12_g2.out 1
    have rg22 := CellsAt.cell HC12_g2.out 2
    have rg23 := CellsAt.cell HC12_g2.out 3
    have rg24 := CellsAt.cell HC12_g2.out 4
    have rg25 := CellsAt.cell HC12_g2.out 5
    have rg26 := CellsAt.cell HC12_g2.out 6
    have rg2l := CellsAt.lt HC12_g2.out
    simp at rg20 rg21 rg22 rg23 rg24 rg25 rg26
    go_wp2_with fail
    clear rg10 rg11 rg12 rg13 rg1l
    clear rg20 rg21 rg22 rg23 rg24 rg25 rg26 rg2l
    refine (HUP.out _ HR12_r.out HM12_m.out).mono ?_
    rintro e w15 ⟨⟨vC, lC, KC, eC, rfl, hiC, haC⟩, bC⟩
    have HB13 : Hid (Below w.heap.size w w15) := HB12.out.trans (bC.mono HB12.out.size)
    have HC13_g1 : Hid (CellsAt w15 w.heap.size 48 #[.int .i64 K.major, .int .i64 K.minor, .slice qe lk je, .slice a l.length cap]) := HC12_g1.out.below bC HC12_g1.out.lt
    have HC13_g2 : Hid (CellsAt w15 (w.heap.size + 1) 39 #[.string M.name, .int .i64 M.major, .int .i64 M.minor, .string M.text, .slice pe le ke, .slice pi li ki, .slice pp lp kp]) := HC12_g2.out.below bC HC12_g2.out.lt
    have HC13_gA : Hid (CellsAt w15 gA 48 #[.int .i64 KA.major, .int .i64 KA.minor, .slice qA kA jA, .slice (some ⟨bA, oA, none⟩) lA.length cA]) := HC12_gA.out.below bC HC12_gA.out.lt
    have HR13_r : Hid (IsReg w15.heap.size w15 (.agg #[.int .i64 K.major, .int .i64 K.minor, .slice qe lk je, .slice a l.length cap]) K l) := (HR12_r.out.below bC).more bC.size
    have HR13_A : Hid (IsReg w15.heap.size w15 (.agg #[.int .i64 KA.major, .int .i64 KA.minor, .slice qA kA jA, .slice (some ⟨bA, oA, none⟩) lA.length cA]) KA lA) := (HR12_A.out.below bC).more bC.size
    have HM13_m : Hid (IsMod w15.heap.size w15 (.agg #[.string M.name, .int .i64 M.major, .int .i64 M.minor, .string M.text, .slice pe le ke, .slice pi li ki, .slice pp lp kp]) M) := (HM12_m.out.below bC).more bC.size
    clear HB12 HC12_g1 HC12_g2 HC12_gA HR12_r HR12_A HM12_m
    obtain ⟨qC, jC, aC, cC, rfl⟩ := hiC.shape0
    generalize hkC : KC.exps.length = kC at *
    have HALC : Hid _ := haC
    have HRNC : Hid (IsReg w15.heap.size w15 (.agg #[.int .i64 KC.major, .int .i64 KC.minor, .slice qC kC jC, .slice aC lC.length cC]) KC lC) := hiC
    clear bC hiC haC hkC HUP
    have ba : Below w15.heap.size w15 (w15.alloc (.cells #[.int .i64 KC.major, .int .i64 KC.minor, .slice qC kC jC, .slice aC lC.length cC] 48)) := (Below.refl _ _).alloc (Nat.le_refl _) _
    have ol_g1_gC : w.heap.size < w15.heap.size := CellsAt.lt HC13_g1.out
    have ol_g2_gC : (w.heap.size + 1) < w15.heap.size := CellsAt.lt HC13_g2.out
    have ol_gA_gC : gA < w15.heap.size := CellsAt.lt HC13_gA.out
    have olw_gC : w.heap.size ≤ w15.heap.size := HB13.out.size
    have HB14 : Hid (Below w.heap.size w (w15.alloc (.cells #[.int .i64 KC.major, .int .i64 KC.minor, .slice qC kC jC, .slice aC lC.length cC] 48))) := HB13.out.trans (ba.mono HB13.out.size)
    have HC14_g1 : Hid (CellsAt (w15.alloc (.cells #[.int .i64 KC.major, .int .i64 KC.minor, .slice qC kC jC, .slice aC lC.length cC] 48)) w.heap.size 48 #[.int .i64 K.major, .int .i64 K.minor, .slice qe lk je, .slice a l.length cap]) := HC13_g1.out.below ba HC13_g1.out.lt
    have HC14_g2 : Hid (CellsAt (w15.alloc (.cells #[.int .i64 KC.major, .int .i64 KC.minor, .slice qC kC jC, .slice aC lC.length cC] 48)) (w.heap.size + 1) 39 #[.string M.name, .int .i64 M.major, .int .i64 M.minor, .string M.text, .slice pe le ke, .slice pi li ki, .slice pp lp kp]) := HC13_g2.out.below ba HC13_g2.out.lt
    have HC14_gA : Hid (CellsAt (w15.alloc (.cells #[.int .i64 KC.major, .int .i64 KC.minor, .slice qC kC jC, .slice aC lC.length cC] 48)) gA 48 #[.int .i64 KA.major, .int .i64 KA.minor, .slice qA kA jA, .slice (some ⟨bA, oA, none⟩) lA.length cA]) := HC13_gA.out.below ba HC13_gA.out.lt
    have HR14_r : Hid (IsReg (w15.alloc (.cells #[.int .i64 KC.major, .int .i64 KC.minor, .slice qC kC jC, .slice aC lC.length cC] 48)).heap.size (w15.alloc (.cells #[.int .i64 KC.major, .int .i64 KC.minor, .slice qC kC jC, .slice aC lC.length cC] 48)) (.agg #[.int .i64 K.major, .int .i64 K.minor, .slice qe lk je, .slice a l.length cap]) K l) := (HR13_r.out.below ba).more ba.size
    have HR14_A : Hid (IsReg (w15.alloc (.cells #[.int .i64 KC.major, .int .i64 KC.minor, .slice qC kC jC, .slice aC lC.length cC] 48)).heap.size (w15.alloc (.cells #[.int .i64 KC.major, .int .i64 KC.minor, .slice qC kC jC, .slice aC lC.length cC] 48)) (.agg #[.int .i64 KA.major, .int .i64 KA.minor, .slice qA kA jA, .slice (some ⟨bA, oA, none⟩) lA.length cA]) KA lA) := (HR13_A.out.below ba).more ba.size
    have HR14_C : Hid (IsReg (w15.alloc (.cells #[.int .i64 KC.major, .int .i64 KC.minor, .slice qC kC jC, .slice aC lC.length cC] 48)).heap.size (w15.alloc (.cells #[.int .i64 KC.major, .int .i64 KC.minor, .slice qC kC jC, .slice aC lC.length cC] 48)) (.agg #[.int .i64 KC.major, .int .i64 KC.minor, .slice qC kC jC, .slice aC lC.length cC]) KC lC) := (HRNC.out.below ba).more ba.size
    have HM14_m : Hid (IsMod (w15.alloc (.cells #[.int .i64 KC.major, .int .i64 KC.minor, .slice qC kC jC, .slice aC lC.length cC] 48)).heap.size (w15.alloc (.cells #[.int .i64 KC.major, .int .i64 KC.minor, .slice qC kC jC, .slice aC lC.length cC] 48)) (.agg #[.string M.name, .int .i64 M.major, .int .i64 M.minor, .string M.text, .slice pe le ke, .slice pi li ki, .slice pp lp kp]) M) := (HM13_m.out.below ba).more ba.size
    clear HB13 HC13_g1 HC13_g2 HC13_gA HR13_r HR13_A HRNC HM13_m
    clear ba
    have HC15_gC : Hid (CellsAt (w15.alloc (.cells #[.int .i64 KC.major, .int .i64 KC.minor, .slice qC kC jC, .slice aC lC.length cC] 48)) w15.heap.size 48 #[.int .i64 KC.major, .int .i64 KC.minor, .slice qC kC jC, .slice aC lC.length cC]) := CellsAt.new _ _ _
    go_upto_region 11 with fail
    generalize (w15.alloc (.cells #[.int .i64 KC.major, .int .i64 KC.minor, .slice qC kC jC, .slice aC lC.length cC] 48)) = w16 at *
    generalize w15.heap.size = gC at *
    rcases HALC.out with hal | ⟨hpe, hc2, j, x, hjx, hix, hcx, k, y, hky, hiy, hsame⟩
    · have hal2 : (eC != 0) = true := by simpa using hal.1
      have hal3 : lC = [] := hal.2
      subst hal3
      simp only [List.length_nil] at *
      clear hal HALC
      have rgC0 := CellsAt.cell HC15_gC.out 0
      have rgC1 := CellsAt.cell HC15_gC.out 1
      have rgC2 := CellsAt.cell HC15_gC.out 2
      have rgC3 := CellsAt.cell HC15_gC.out 3
      have rgCl := CellsAt.lt HC15_gC.out
      simp at rgC0 rgC1 rgC2 rgC3
      go_wp2
      go_ret
      exact ⟨rfl, HB14.out⟩
    · subst hpe
      clear HALC
      have hxm := List.mem_of_getElem? hjx
      have HSY : Hid _ := HSX.out x hxm hcx
      clear HSX hcx
      generalize szM x.mod = sx at *
      have HQ1 : Hid (∀ d os, Calls Tryz.prog 12 #[.slice a l.length cap, .string M.name] (grow (redrawn w16 d) os) fun e w' => e = .returned (.int .i64 (j : Int)) ∧ Below (grow (redrawn w16 d) os).heap.size (grow (redrawn w16 d) os) w') := fun d os => by
        have hb := below_regrown w16 d os
        have hpl : IsPlcs w16.heap.size w16 (.slice a l.length cap) l := by
          obtain ⟨_, _, ex, _, hpp⟩ := HR14_r.out
          injection ex with ex; simp at ex; obtain ⟨-, rfl⟩ := ex
          exact hpp
        have := HPO.out l _ _ ((hpl.1.below hb).more hb.size)
        rw [hix] at this
        exact this
      have HQ2 : Hid (∀ d os, Calls Tryz.prog 12 #[.slice aC lC.length cC, .string M.name] (grow (redrawn w16 d) os) fun e w' => e = .returned (.int .i64 (k : Int)) ∧ Below (grow (redrawn w16 d) os).heap.size (grow (redrawn w16 d) os) w') := fun d os => by
        have hb := below_regrown w16 d os
        have hpl : IsPlcs w16.heap.size w16 (.slice aC lC.length cC) lC := by
          obtain ⟨_, _, ex, _, hpp⟩ := HR14_C.out
          injection ex with ex; simp at ex; obtain ⟨-, rfl⟩ := ex
          exact hpp
        have := HPO.out lC _ _ ((hpl.1.below hb).more hb.size)
        rw [hiy] at this
        exact this
      clear HPO
      have rg10 := CellsAt.cell HC14_g1.out 0
      have rg11 := CellsAt.cell HC14_g1.out 1
      have rg12 := CellsAt.cell HC14_g1.out 2
      have rg13 := CellsAt.cell HC14_g1.out 3
      have rg1l := CellsAt.lt HC14_g1.out
      simp at rg10 rg11 rg12 rg13
      have rg20 := CellsAt.cell HC14_g2.out 0
      have rg21 := CellsAt.cell HC14_g2.out 1
      have rg22 := CellsAt.cell HC14_g2.out 2
      have rg23 := CellsAt.cell HC14_g2.out 3
      have rg24 := CellsAt.cell HC14_g2.out 4
      have rg25 := CellsAt.cell HC14_g2.out 5
      have rg26 := CellsAt.cell HC14_g2.out 6
      have rg2l := CellsAt.lt HC14_g2.out
      simp at rg20 rg21 rg22 rg23 rg24 rg25 rg26
      have rgC0 := CellsAt.cell HC15_gC.out 0
      have rgC1 := CellsAt.cell HC15_gC.out 1
      have rgC2 := CellsAt.cell HC15_gC.out 2
      have rgC3 := CellsAt.cell HC15_gC.out 3
      have rgCl := CellsAt.lt HC15_gC.out
      simp at rgC0 rgC1 rgC2 rgC3
      have z1 := cell_regrown rg13
      have z2 := cell_regrown rg20
      have z3 := cell_regrown rgC3
      go_wp2_with fail
      clear rg10 rg11 rg12 rg13 rg1l
      clear rg20 rg21 rg22 rg23 rg24 rg25 rg26 rg2l
      clear rgC0 rgC1 rgC2 rgC3 rgCl
      refine wp_region_quiet_below (by kernel_rfl) (by kernel_rfl) ?_
      go_big_quiet_step ((go_at_call 12; go_must (exact Calls.regrown_of (HQ1.out _ _))))
      go_big_quiet_step ((go_at_call 12; go_must (exact Calls.regrown_of (HQ1.out _ _))))
      go_big_quiet_step ((go_at_call 12; go_must (exact Calls.regrown_of (HQ1.out _ _))))
      go_big_quiet_step ((go_at_call 12; go_must (exact Calls.regrown_of (HQ1.out _ _))))
      go_big_quiet_step ((go_at_call 12; go_must (exact Calls.regrown_of (HQ1.out _ _))))
      repeat (go_big_quiet_step ((go_at_call 12; go_must (exact Calls.regrown_of (HQ2.out _ _)))))
      refine wpQuiet_nil ?_
      intro w17 hw'
      obtain ⟨⟨dq, osq⟩, hw''⟩ := hw'
      have bq := below_regrown w16 dq osq
      rw [← hw''] at bq
      clear hw''
      have HB16 : Hid (Below w.heap.size w w17) := HB14.out.trans (bq.mono HB14.out.size)
      have HC16_g1 : Hid (CellsAt w17 w.heap.size 48 #[.int .i64 K.major, .int .i64 K.minor, .slice qe lk je, .slice a l.length cap]) := HC14_g1.out.below bq HC14_g1.out.lt
      have HC16_g2 : Hid (CellsAt w17 (w.heap.size + 1) 39 #[.string M.name, .int .i64 M.major, .int .i64 M.minor, .string M.text, .slice pe le ke, .slice pi li ki, .slice pp lp kp]) := HC14_g2.out.below bq HC14_g2.out.lt
      have HC16_gA : Hid (CellsAt w17 gA 48 #[.int .i64 KA.major, .int .i64 KA.minor, .slice qA kA jA, .slice (some ⟨bA, oA, none⟩) lA.length cA]) := HC14_gA.out.below bq HC14_gA.out.lt
      have HC16_gC : Hid (CellsAt w17 gC 48 #[.int .i64 KC.major, .int .i64 KC.minor, .slice qC kC jC, .slice aC lC.length cC]) := HC15_gC.out.below bq HC15_gC.out.lt
      have HR16_r : Hid (IsReg w17.heap.size w17 (.agg #[.int .i64 K.major, .int .i64 K.minor, .slice qe lk je, .slice a l.length cap]) K l) := (HR14_r.out.below bq).more bq.size
      have HR16_A : Hid (IsReg w17.heap.size w17 (.agg #[.int .i64 KA.major, .int .i64 KA.minor, .slice qA kA jA, .slice (some ⟨bA, oA, none⟩) lA.length cA]) KA lA) := (HR14_A.out.below bq).more bq.size
      have HR16_C : Hid (IsReg w17.heap.size w17 (.agg #[.int .i64 KC.major, .int .i64 KC.minor, .slice qC kC jC, .slice aC lC.length cC]) KC lC) := (HR14_C.out.below bq).more bq.size
      have HM16_m : Hid (IsMod w17.heap.size w17 (.agg #[.string M.name, .int .i64 M.major, .int .i64 M.minor, .string M.text, .slice pe le ke, .slice pi li ki, .slice pp lp kp]) M) := (HM14_m.out.below bq).more bq.size
      clear HB14 HC14_g1 HC14_g2 HC14_gA HC15_gC HR14_r HR14_A HR14_C HM14_m
      clear bq
      clear z1 z2 z3 HQ1 HQ2
      have hj0 : decide ((j : Int) < 0) = false := decide_eq_false (by omega)
      have hk0 : decide ((k : Int) < 0) = false := decide_eq_false (by omega)
      have rg10 := CellsAt.cell HC16_g1.out 0
      have rg11 := CellsAt.cell HC16_g1.out 1
      have rg12 := CellsAt.cell HC16_g1.out 2
      have rg13 := CellsAt.cell HC16_g1.out 3
      have rg1l := CellsAt.lt HC16_g1.out
      simp at rg10 rg11 rg12 rg13
      have rg20 := CellsAt.cell HC16_g2.out 0
      have rg21 := CellsAt.cell HC16_g2.out 1
      have rg22 := CellsAt.cell HC16_g2.out 2
      have rg23 := CellsAt.cell HC16_g2.out 3
      have rg24 := CellsAt.cell HC16_g2.out 4
      have rg25 := CellsAt.cell HC16_g2.out 5
      have rg26 := CellsAt.cell HC16_g2.out 6
      have rg2l := CellsAt.lt HC16_g2.out
      simp at rg20 rg21 rg22 rg23 rg24 rg25 rg26
      have rgC0 := CellsAt.cell HC16_gC.out 0
      have rgC1 := CellsAt.cell HC16_gC.out 1
      have rgC2 := CellsAt.cell HC16_gC.out 2
      have rgC3 := CellsAt.cell HC16_gC.out 3
      have rgCl := CellsAt.lt HC16_gC.out
      simp at rgC0 rgC1 rgC2 rgC3
      go_wp2_with fail
      clear rg10 rg11 rg12 rg13 rg1l
      clear rg20 rg21 rg22 rg23 rg24 rg25 rg26 rg2l
      clear rgC0 rgC1 rgC2 rgC3 rgCl
      refine (HSZ.out hc2 _ HM16_m.out).mono ?_
      rintro e w18 ⟨rfl, b18⟩
      have HB17 : Hid (Below w.heap.size w w18) := HB16.out.trans (b18.mono HB16.out.size)
      have HC17_g1 : Hid (CellsAt w18 w.heap.size 48 #[.int .i64 K.major, .int .i64 K.minor, .slice qe lk je, .slice a l.length cap]) := HC16_g1.out.below b18 HC16_g1.out.lt
      have HC17_g2 : Hid (CellsAt w18 (w.heap.size + 1) 39 #[.string M.name, .int .i64 M.major, .int .i64 M.minor, .string M.text, .slice pe le ke, .slice pi li ki, .slice pp lp kp]) := HC16_g2.out.below b18 HC16_g2.out.lt
      have HC17_gA : Hid (CellsAt w18 gA 48 #[.int .i64 KA.major, .int .i64 KA.minor, .slice qA kA jA, .slice (some ⟨bA, oA, none⟩) lA.length cA]) := HC16_gA.out.below b18 HC16_gA.out.lt
      have HC17_gC : Hid (CellsAt w18 gC 48 #[.int .i64 KC.major, .int .i64 KC.minor, .slice qC kC jC, .slice aC lC.length cC]) := HC16_gC.out.below b18 HC16_gC.out.lt
      have HR17_r : Hid (IsReg w18.heap.size w18 (.agg #[.int .i64 K.major, .int .i64 K.minor, .slice qe lk je, .slice a l.length cap]) K l) := (HR16_r.out.below b18).more b18.size
      have HR17_A : Hid (IsReg w18.heap.size w18 (.agg #[.int .i64 KA.major, .int .i64 KA.minor, .slice qA kA jA, .slice (some ⟨bA, oA, none⟩) lA.length cA]) KA lA) := (HR16_A.out.below b18).more b18.size
      have HR17_C : Hid (IsReg w18.heap.size w18 (.agg #[.int .i64 KC.major, .int .i64 KC.minor, .slice qC kC jC, .slice aC lC.length cC]) KC lC) := (HR16_C.out.below b18).more b18.size
      have HM17_m : Hid (IsMod w18.heap.size w18 (.agg #[.string M.name, .int .i64 M.major, .int .i64 M.minor, .string M.text, .slice pe le ke, .slice pi li ki, .slice pp lp kp]) M) := (HM16_m.out.below b18).more b18.size
      clear HB16 HC16_g1 HC16_g2 HC16_gA HC16_gC HR16_r HR16_A HR16_C HM16_m
      clear b18
      have hpl : IsPlcs w18.heap.size w18 (.slice a l.length cap) l := by
        obtain ⟨_, _, ex, _, hpp⟩ := HR17_r.out
        injection ex with ex; simp at ex; obtain ⟨-, rfl⟩ := ex
        exact hpp
      have HPL : Hid (IsPlcs w18.heap.size w18 (.slice a l.length cap) l) := hpl
      obtain ⟨a8, c8, e8, hmxr, hrw⟩ := hpl.1
      injection e8 with e8 _ e9
      subst e8 e9
      clear hpl
      have hklr : (j : Int) < (l.length : Int) := by have := (List.getElem?_eq_some_iff.1 hjx).1; omega
      rcases hrw with h | ⟨bR, oR, rfl, hbnr, hcells⟩
      · subst h; simp at hjx
      have HF0r : Hid (w18.cell? ⟨bR, oR + j * 8 + 7, none⟩ = some (.int .i64 x.first) ∧ bR < w18.heap.size) := ⟨hcells j x hjx 7 (by omega), hbnr⟩
      have c0 := hcells j x hjx 0 (by omega)
      have c1 := hcells j x hjx 1 (by omega)
      have c2 := hcells j x hjx 2 (by omega)
      have c3 := hcells j x hjx 3 (by omega)
      have c4 := hcells j x hjx 4 (by omega)
      have c5 := hcells j x hjx 5 (by omega)
      have c6 := hcells j x hjx 6 (by omega)
      have HPX : Hid (PlcAt w18.heap.size w18 x) := HPL.out.2 x hxm
      have hpx := HPX.out
      obtain ⟨⟨pe', ke', e4', -⟩, ⟨pi', ki', e5', -⟩, ⟨pp', kp', e6', -⟩⟩ := hpx
      obtain ⟨⟨N', xa', xi', T', es', is', ps'⟩, vxe', vxi', vxp', fi'⟩ := x
      dsimp only at e4' e5' e6'
      subst e4' e5' e6'
      dsimp only [PV.cell, PV.modV] at *
      rw [Nat.add_zero] at c0
      clear hcells HPL hjx hxm hbnr
      generalize es'.length = le' at *
      generalize is'.length = li' at *
      generalize ps'.length = lp' at *
      have rg10 := CellsAt.cell HC17_g1.out 0
      have rg11 := CellsAt.cell HC17_g1.out 1
      have rg12 := CellsAt.cell HC17_g1.out 2
      have rg13 := CellsAt.cell HC17_g1.out 3
      have rg1l := CellsAt.lt HC17_g1.out
      simp at rg10 rg11 rg12 rg13
      have rg20 := CellsAt.cell HC17_g2.out 0
      have rg21 := CellsAt.cell HC17_g2.out 1
      have rg22 := CellsAt.cell HC17_g2.out 2
      have rg23 := CellsAt.cell HC17_g2.out 3
      have rg24 := CellsAt.cell HC17_g2.out 4
      have rg25 := CellsAt.cell HC17_g2.out 5
      have rg26 := CellsAt.cell HC17_g2.out 6
      have rg2l := CellsAt.lt HC17_g2.out
      simp at rg20 rg21 rg22 rg23 rg24 rg25 rg26
      have rgC0 := CellsAt.cell HC17_gC.out 0
      have rgC1 := CellsAt.cell HC17_gC.out 1
      have rgC2 := CellsAt.cell HC17_gC.out 2
      have rgC3 := CellsAt.cell HC17_gC.out 3
      have rgCl := CellsAt.lt HC17_gC.out
      simp at rgC0 rgC1 rgC2 rgC3
      go_wp2_with fail
      clear rg10 rg11 rg12 rg13 rg1l
      clear rg20 rg21 rg22 rg23 rg24 rg25 rg26 rg2l
      clear rgC0 rgC1 rgC2 rgC3 rgCl
      refine (HSY.out _ HPX.out).mono ?_
      clear HSY HPX c0 c1 c2 c3 c4 c5 c6
      rintro e w19 ⟨rfl, b19⟩
      have HB18 : Hid (Below w.heap.size w w19) := HB17.out.trans (b19.mono HB17.out.size)
      have HC18_g1 : Hid (CellsAt w19 w.heap.size 48 #[.int .i64 K.major, .int .i64 K.minor, .slice qe lk je, .slice (some ⟨bR, oR, none⟩) l.length cap]) := HC17_g1.out.below b19 HC17_g1.out.lt
      have HC18_g2 : Hid (CellsAt w19 (w.heap.size + 1) 39 #[.string M.name, .int .i64 M.major, .int .i64 M.minor, .string M.text, .slice pe le ke, .slice pi li ki, .slice pp lp kp]) := HC17_g2.out.below b19 HC17_g2.out.lt
      have HC18_gA : Hid (CellsAt w19 gA 48 #[.int .i64 KA.major, .int .i64 KA.minor, .slice qA kA jA, .slice (some ⟨bA, oA, none⟩) lA.length cA]) := HC17_gA.out.below b19 HC17_gA.out.lt
      have HC18_gC : Hid (CellsAt w19 gC 48 #[.int .i64 KC.major, .int .i64 KC.minor, .slice qC kC jC, .slice aC lC.length cC]) := HC17_gC.out.below b19 HC17_gC.out.lt
      have HR18_r : Hid (IsReg w19.heap.size w19 (.agg #[.int .i64 K.major, .int .i64 K.minor, .slice qe lk je, .slice (some ⟨bR, oR, none⟩) l.length cap]) K l) := (HR17_r.out.below b19).more b19.size
      have HR18_A : Hid (IsReg w19.heap.size w19 (.agg #[.int .i64 KA.major, .int .i64 KA.minor, .slice qA kA jA, .slice (some ⟨bA, oA, none⟩) lA.length cA]) KA lA) := (HR17_A.out.below b19).more b19.size
      have HR18_C : Hid (IsReg w19.heap.size w19 (.agg #[.int .i64 KC.major, .int .i64 KC.minor, .slice qC kC jC, .slice aC lC.length cC]) KC lC) := (HR17_C.out.below b19).more b19.size
      have HM18_m : Hid (IsMod w19.heap.size w19 (.agg #[.string M.name, .int .i64 M.major, .int .i64 M.minor, .string M.text, .slice pe le ke, .slice pi li ki, .slice pp lp kp]) M) := (HM17_m.out.below b19).more b19.size
      have HF18_r : Hid (w19.cell? ⟨bR, oR + j * 8 + 7, none⟩ = some (.int .i64 fi') ∧ bR < w19.heap.size) := ⟨(b19.cell (p := ⟨bR, oR + j * 8 + 7, none⟩) HF0r.out.2).trans HF0r.out.1, Nat.lt_of_lt_of_le HF0r.out.2 b19.size⟩
      clear HB17 HC17_g1 HC17_g2 HC17_gA HC17_gC HR17_r HR17_A HR17_C HM17_m HF0r
      clear b19
      have hpl : IsPlcs w19.heap.size w19 (.slice aC lC.length cC) lC := by
        obtain ⟨_, _, ex, _, hpp⟩ := HR18_C.out
        injection ex with ex; simp at ex; obtain ⟨-, rfl⟩ := ex
        exact hpp
      have HPL : Hid (IsPlcs w19.heap.size w19 (.slice aC lC.length cC) lC) := hpl
      obtain ⟨a8, c8, e8, hmxC, hrw⟩ := hpl.1
      injection e8 with e8 _ e9
      subst e8 e9
      clear hpl
      have hklC : (k : Int) < (lC.length : Int) := by have := (List.getElem?_eq_some_iff.1 hky).1; omega
      rcases hrw with h | ⟨bC, oC, rfl, hbnC, hcells⟩
      · subst h; simp at hky
      have HF0C : Hid (w19.cell? ⟨bC, oC + k * 8 + 7, none⟩ = some (.int .i64 y.first) ∧ bC < w19.heap.size) := ⟨hcells k y hky 7 (by omega), hbnC⟩
      clear hcells HPL hky hbnC
      have rg13 := CellsAt.cell HC18_g1.out 3
      have rg1l := CellsAt.lt HC18_g1.out
      simp at rg13
      have rgC3 := CellsAt.cell HC18_gC.out 3
      have rgCl := CellsAt.lt HC18_gC.out
      simp at rgC3
      have z1 := cell_regrown rg13
      have z3 := cell_regrown rgC3
      have z4 := cell_regrown HF18_r.out.1
      have z5 := cell_regrown HF0C.out.1
      by_cases hsz : (sx : Int) < (szM M : Int)
      · have hs1 : decide ((sx : Int) < (szM M : Int)) = true := decide_eq_true hsz
        have hs2 : decide ((szM M : Int) > (sx : Int)) = true := decide_eq_true hsz
        go_wp2_with fail
        refine wp_region_quiet_below (by kernel_rfl) (by kernel_rfl) ?_
        repeat (go_big_quiet_step (fail))
        refine wpQuiet_nil ?_
        intro w20 hw'
        obtain ⟨⟨dq, osq⟩, hw''⟩ := hw'
        have bq := below_regrown w19 dq osq
        rw [← hw''] at bq
        clear hw''
        have HB19 : Hid (Below w.heap.size w w20) := HB18.out.trans (bq.mono HB18.out.size)
        have HC19_g1 : Hid (CellsAt w20 w.heap.size 48 #[.int .i64 K.major, .int .i64 K.minor, .slice qe lk je, .slice (some ⟨bR, oR, none⟩) l.length cap]) := HC18_g1.out.below bq HC18_g1.out.lt
        have HC19_g2 : Hid (CellsAt w20 (w.heap.size + 1) 39 #[.string M.name, .int .i64 M.major, .int .i64 M.minor, .string M.text, .slice pe le ke, .slice pi li ki, .slice pp lp kp]) := HC18_g2.out.below bq HC18_g2.out.lt
        have HC19_gA : Hid (CellsAt w20 gA 48 #[.int .i64 KA.major, .int .i64 KA.minor, .slice qA kA jA, .slice (some ⟨bA, oA, none⟩) lA.length cA]) := HC18_gA.out.below bq HC18_gA.out.lt
        have HC19_gC : Hid (CellsAt w20 gC 48 #[.int .i64 KC.major, .int .i64 KC.minor, .slice qC kC jC, .slice (some ⟨bC, oC, none⟩) lC.length cC]) := HC18_gC.out.below bq HC18_gC.out.lt
        have HR19_r : Hid (IsReg w20.heap.size w20 (.agg #[.int .i64 K.major, .int .i64 K.minor, .slice qe lk je, .slice (some ⟨bR, oR, none⟩) l.length cap]) K l) := (HR18_r.out.below bq).more bq.size
        have HR19_A : Hid (IsReg w20.heap.size w20 (.agg #[.int .i64 KA.major, .int .i64 KA.minor, .slice qA kA jA, .slice (some ⟨bA, oA, none⟩) lA.length cA]) KA lA) := (HR18_A.out.below bq).more bq.size
        have HR19_C : Hid (IsReg w20.heap.size w20 (.agg #[.int .i64 KC.major, .int .i64 KC.minor, .slice qC kC jC, .slice (some ⟨bC, oC, none⟩) lC.length cC]) KC lC) := (HR18_C.out.below bq).more bq.size
        have HM19_m : Hid (IsMod w20.heap.size w20 (.agg #[.string M.name, .int .i64 M.major, .int .i64 M.minor, .string M.text, .slice pe le ke, .slice pi li ki, .slice pp lp kp]) M) := (HM18_m.out.below bq).more bq.size
        have HF19_r : Hid (w20.cell? ⟨bR, oR + j * 8 + 7, none⟩ = some (.int .i64 fi') ∧ bR < w20.heap.size) := ⟨(bq.cell (p := ⟨bR, oR + j * 8 + 7, none⟩) HF18_r.out.2).trans HF18_r.out.1, Nat.lt_of_lt_of_le HF18_r.out.2 bq.size⟩
        have HF19_C : Hid (w20.cell? ⟨bC, oC + k * 8 + 7, none⟩ = some (.int .i64 y.first) ∧ bC < w20.heap.size) := ⟨(bq.cell (p := ⟨bC, oC + k * 8 + 7, none⟩) HF0C.out.2).trans HF0C.out.1, Nat.lt_of_lt_of_le HF0C.out.2 bq.size⟩
        clear HB18 HC18_g1 HC18_g2 HC18_gA HC18_gC HR18_r HR18_A HR18_C HM18_m HF18_r HF0C
        clear bq
        go_wp2
        go_ret
        exact ⟨rfl, HB19.out⟩
      · have hs1 : decide ((sx : Int) < (szM M : Int)) = false := decide_eq_false hsz
        have hs2 : decide ((szM M : Int) > (sx : Int)) = false := decide_eq_false hsz
        have hs3 : decide (sx < szM M) = false := decide_eq_false (by omega)
        have hs4 : ¬ sx < szM M := by omega
        have hs5 : szM M ≤ sx := by omega
        have hyf := hsame (by omega)
        rw [hyf] at z5
        have hff : (fi' == fi') = true := by simp
        go_wp2_with fail
        refine wp_region_quiet_below (by kernel_rfl) (by kernel_rfl) ?_
        repeat (go_big_quiet_step (fail))
        refine wpQuiet_nil ?_
        intro w20 hw'
        obtain ⟨⟨dq, osq⟩, hw''⟩ := hw'
        have bq := below_regrown w19 dq osq
        rw [← hw''] at bq
        clear hw''
        have HB19 : Hid (Below w.heap.size w w20) := HB18.out.trans (bq.mono HB18.out.size)
        have HC19_g1 : Hid (CellsAt w20 w.heap.size 48 #[.int .i64 K.major, .int .i64 K.minor, .slice qe lk je, .slice (some ⟨bR, oR, none⟩) l.length cap]) := HC18_g1.out.below bq HC18_g1.out.lt
        have HC19_g2 : Hid (CellsAt w20 (w.heap.size + 1) 39 #[.string M.name, .int .i64 M.major, .int .i64 M.minor, .string M.text, .slice pe le ke, .slice pi li ki, .slice pp lp kp]) := HC18_g2.out.below bq HC18_g2.out.lt
        have HC19_gA : Hid (CellsAt w20 gA 48 #[.int .i64 KA.major, .int .i64 KA.minor, .slice qA kA jA, .slice (some ⟨bA, oA, none⟩) lA.length cA]) := HC18_gA.out.below bq HC18_gA.out.lt
        have HC19_gC : Hid (CellsAt w20 gC 48 #[.int .i64 KC.major, .int .i64 KC.minor, .slice qC kC jC, .slice (some ⟨bC, oC, none⟩) lC.length cC]) := HC18_gC.out.below bq HC18_gC.out.lt
        have HR19_r : Hid (IsReg w20.heap.size w20 (.agg #[.int .i64 K.major, .int .i64 K.minor, .slice qe lk je, .slice (some ⟨bR, oR, none⟩) l.length cap]) K l) := (HR18_r.out.below bq).more bq.size
        have HR19_A : Hid (IsReg w20.heap.size w20 (.agg #[.int .i64 KA.major, .int .i64 KA.minor, .slice qA kA jA, .slice (some ⟨bA, oA, none⟩) lA.length cA]) KA lA) := (HR18_A.out.below bq).more bq.size
        have HR19_C : Hid (IsReg w20.heap.size w20 (.agg #[.int .i64 KC.major, .int .i64 KC.minor, .slice qC kC jC, .slice (some ⟨bC, oC, none⟩) lC.length cC]) KC lC) := (HR18_C.out.below bq).more bq.size
        have HM19_m : Hid (IsMod w20.heap.size w20 (.agg #[.string M.name, .int .i64 M.major, .int .i64 M.minor, .string M.text, .slice pe le ke, .slice pi li ki, .slice pp lp kp]) M) := (HM18_m.out.below bq).more bq.size
        have HF19_r : Hid (w20.cell? ⟨bR, oR + j * 8 + 7, none⟩ = some (.int .i64 fi') ∧ bR < w20.heap.size) := ⟨(bq.cell (p := ⟨bR, oR + j * 8 + 7, none⟩) HF18_r.out.2).trans HF18_r.out.1, Nat.lt_of_lt_of_le HF18_r.out.2 bq.size⟩
        have HF19_C : Hid (w20.cell? ⟨bC, oC + k * 8 + 7, none⟩ = some (.int .i64 y.first) ∧ bC < w20.heap.size) := ⟨(bq.cell (p := ⟨bC, oC + k * 8 + 7, none⟩) HF0C.out.2).trans HF0C.out.1, Nat.lt_of_lt_of_le HF0C.out.2 bq.size⟩
        clear HB18 HC18_g1 HC18_g2 HC18_gA HC18_gC HR18_r HR18_A HR18_C HM18_m HF18_r HF0C
        clear bq
        go_wp2
        go_ret
        exact ⟨rfl, HB19.out⟩

end Go.Proofs.YthmohjgdcjafkadGreat.planSpace
