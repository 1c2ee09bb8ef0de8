/- Texts that are laid together. -/
import Derived.Test.YthmohjgdcjafkaeGreatMrgU
import Derived.Test.YthmohjgdcjafkaeGreatMrgL
import Derived.Test.YthmohjgdcjafkaeGreatMrgM
import Derived.Test.YthmohjgdcjafkaeGreatMrgP
import Derived.Test.YthmohjgdcjafkaeGreatMrgV

/- What becomes of registries that are right, as data. -/
namespace Go.Proofs.YthmohjgdcjafkaeGreat
open Go.RowKit Go.PlainAid Go.Lib

theorem rg_names {K : Ker} {L : List Plc} (h : chkRg K L = 0) : (L.map (·.mod.name)).Nodup := (chkGraph_zero.1 (rg_graph h)).2.2
theorem rg_mods {K : Ker} {L : List Plc} (h : chkRg K L = 0) : ∀ p ∈ L, chkMod p.mod = 0 := (chkGraph_zero.1 (rg_graph h)).2.1
theorem rg_reg {K : Ker} {L : List Plc} (h : chkRg K L = 0) : chkReg L = 0 := (chkLink_zero (chkRg_zero h).1).2.1
/-- Where names are there once, each is found where it is. -/
theorem ix_name : ∀ {L : List Plc} (k : Nat), (L.map (·.mod.name)).Nodup → ∀ {j : Nat} {p : Plc}, L[j]? = some p → ixFrom (fun q : Plc => q.mod.name == p.mod.name) k L = ((k + j : Nat) : Int)
  | [], _, _, j, p, h => by simp at h
  | q :: r, k, hd, j, p, h => by
    have hs : ixFrom (fun q : Plc => q.mod.name == p.mod.name) k (q :: r) = if (q.mod.name == p.mod.name) = true then (k : Int) else ixFrom (fun q : Plc => q.mod.name == p.mod.name) (k + 1) r := rfl
    rw [hs]
    rw [List.map_cons, List.nodup_cons] at hd
    cases j with
    | zero =>
      obtain rfl : q = p := by simpa using h
      rw [if_pos ((Go.MapKept.bytes_beq _ _).2 rfl)]
      rfl
    | succ j =>
      have h' : r[j]? = some p := by simpa using h
      rw [if_neg (fun e => hd.1 (by
        rw [(Go.MapKept.bytes_beq _ _).1 e]
        exact List.mem_map_of_mem (List.mem_of_getElem? h'))), ix_name (k + 1) hd.2 h']
      congr 1; omega
theorem ix_mem {L : List Plc} (hd : (L.map (·.mod.name)).Nodup) {p : Plc} (hp : p ∈ L) : ∃ j : Nat, L[j]? = some p ∧ ixFrom (fun q : Plc => q.mod.name == p.mod.name) 0 L = (j : Int) := by
  obtain ⟨j, hj⟩ := List.mem_iff_getElem?.1 hp
  exact ⟨j, hj, by rw [ix_name 0 hd hj, Nat.zero_add]⟩
theorem ix_pv {l : List PV} (hd : ((l.map PV.plc).map (·.mod.name)).Nodup) {p : Plc} (hp : p ∈ l.map PV.plc) : ∃ (j : Nat) (x : PV), l[j]? = some x ∧ x.plc = p ∧ ixFrom (fun z : PV => z.mod.name == p.mod.name) 0 l = (j : Int) := by
  obtain ⟨j, h1, h2⟩ := ix_mem hd hp
  rw [ix_map] at h2
  rw [List.getElem?_map] at h1
  cases hx : l[j]? with
  | none => rw [hx] at h1; cases h1
  | some x =>
    rw [hx] at h1
    exact ⟨j, x, hx, by simpa using h1, h2⟩
/-- None lies in the way of another one. -/
theorem ok_apart : ∀ {L : List Plc} {e : Int} {j : Nat} {p : Plc}, okPl e L → L[j]? = some p → ∀ q ∈ L.eraseIdx j, q.first + szM q.mod ≤ p.first ∨ p.first + szM p.mod ≤ q.first
  | [], _, j, p, _, h => by simp at h
  | x :: r, e, 0, p, ho, h => by
    obtain ⟨h1, h2, h3, h4⟩ := ho
    obtain rfl : x = p := by simpa using h
    intro q hq
    exact .inr (okPl_first h4 q hq).1
  | x :: r, e, j + 1, p, ho, h => by
    obtain ⟨h1, h2, h3, h4⟩ := ho
    have h' : r[j]? = some p := by simpa using h
    intro q hq
    rw [List.eraseIdx_cons_succ] at hq
    rcases List.mem_cons.1 hq with rfl | hq
    · exact .inl (okPl_first h4 p (List.mem_of_getElem? h')).1
    · exact ok_apart h4 h' q hq
/-- The document's way to tell whether there is room where another one was. -/
theorem room_doc {L : List Plc} {j : Nat} {p : Plc} {many : Int} (h0 : chkReg L = 0) (hp : L[j]? = some p) (hm : 1 ≤ many) :
    ((runsFrom 0 (L.eraseIdx j)).any fun r => decide (r.1 ≤ p.first) && decide (p.first + many ≤ r.1 + r.2)) = true ↔ (p.first + many ≤ 16 ∧ ∀ q ∈ L.eraseIdx j, ¬ (p.first < q.first ∧ q.first < p.first + many)) := by
  have ho := (chkReg_zero.1 h0).2.2
  have hf := okPl_first ho p (List.mem_of_getElem? hp)
  refine room_runs hm (ok_less j ho) hf.1 (fun q hq => ?_)
  rcases ok_apart ho hp q hq with g | g
  · exact .inl g
  · exact .inr (by omega)
/-- What is no greater finds room where it was. -/
theorem room_same {L : List Plc} {j : Nat} {p : Plc} {many : Nat} (h0 : chkReg L = 0) (hp : L[j]? = some p) (hm : 1 ≤ many) (hs : many ≤ szM p.mod) : roomOf (L.eraseIdx j) p.first many = some p.first := by
  have ho := (chkReg_zero.1 h0).2.2
  have hf := okPl_first ho p (List.mem_of_getElem? hp)
  unfold roomOf
  rw [if_pos]
  refine (room_doc h0 hp (by omega)).2 ⟨by omega, fun q hq => ?_⟩
  rcases ok_apart ho hp q hq with g | g
  · have := (okPl_first (ok_less j ho) q hq).2.1
    omega
  · omega
theorem any_name_false {L : List Plc} {n : ByteArray} (h : (L.any fun p => p.mod.name == n) = false) : ∀ p ∈ L, p.mod.name ≠ n := fun p hp e => by
  rw [List.any_eq_false] at h
  exact h p hp ((Go.MapKept.bytes_beq _ _).2 e)
/-- What Install does, if it does. -/
theorem inst_ok {K : Ker} {L : List Plc} {M : Mod} (h : (planRes K L (instDo L M)).2 = 0) : chkRg K L = 0 ∧ chkMod M = 0 ∧ (∀ p ∈ L, p.mod.name ≠ M.name) ∧ L.length < 8 ∧ ∃ f, firstRes L (szM M) = (f, 0) ∧ instDo L M = (putAt L ⟨M, f⟩, 0) ∧ chkRg K (putAt L ⟨M, f⟩) = 0 ∧ planRes K L (instDo L M) = ((K, putAt L ⟨M, f⟩), 0) := by
  rcases plan_cases K L (instDo L M) with ⟨h1, e⟩ | ⟨_, h1, e⟩ | ⟨_, _, h1, e⟩ | ⟨h1, h2, h3, e⟩
  · rw [e] at h; exact absurd h h1
  · rw [e] at h; exact absurd h h1
  · rw [e] at h; exact absurd h h1
  · have hd : ∀ D, D = instDo L M → D.2 = 0 → chkMod M = 0 ∧ (L.any fun p => p.mod.name == M.name) = false ∧ L.length < 8 ∧ ∃ r, fitOf (szM M) (runsFrom 0 L) = some r ∧ D = (putAt L ⟨M, r.1⟩, 0) := by
      intro D hD hz
      unfold instDo at hD
      by_cases c1 : chkMod M = 0
      · rw [if_neg (by omega)] at hD
        cases c2 : (L.any fun p => p.mod.name == M.name) with
        | true => rw [c2, if_pos rfl] at hD; subst hD; cases hz
        | false =>
          rw [c2, if_neg (by decide)] at hD
          by_cases c3 : 8 ≤ L.length
          · rw [if_pos c3] at hD; subst hD; cases hz
          · rw [if_neg c3] at hD
            cases c4 : fitOf (szM M) (runsFrom 0 L) with
            | none => rw [c4] at hD; subst hD; cases hz
            | some r => rw [c4] at hD; exact ⟨c1, rfl, by omega, r, rfl, hD⟩
      · rw [if_pos c1] at hD; subst hD; exact absurd hz c1
    obtain ⟨c1, c2, c3, r, c4, c5⟩ := hd _ rfl h2
    have hs := szM_bd c1
    refine ⟨h1, c1, any_name_false c2, c3, r.1, ?_, c5, by rw [c5] at h3; exact h3, by rw [e, c5]⟩
    unfold firstRes
    rw [if_neg (by rw [rg_reg h1]; simp), if_neg (by omega), c4]
theorem rem_ok {K : Ker} {L : List Plc} {name : ByteArray} (h : (planRes K L (remDo L name)).2 = 0) : chkRg K L = 0 ∧ ∃ (j : Nat) (p : Plc), nameIx L name = (j : Int) ∧ L[j]? = some p ∧ p.mod.name = name ∧ (∀ p ∈ L, asksM p.mod name = false) ∧ remDo L name = (L.eraseIdx j, 0) ∧ chkRg K (L.eraseIdx j) = 0 ∧ planRes K L (remDo L name) = ((K, L.eraseIdx j), 0) := by
  rcases plan_cases K L (remDo L name) with ⟨h1, e⟩ | ⟨_, h1, e⟩ | ⟨_, _, h1, e⟩ | ⟨h1, h2, h3, e⟩
  · rw [e] at h; exact absurd h h1
  · rw [e] at h; exact absurd h h1
  · rw [e] at h; exact absurd h h1
  · rcases ix_spec (fun p : Plc => p.mod.name == name) L 0 with ⟨g1, _⟩ | ⟨j, p, g1, g2, g3, _⟩
    · rw [remDo_none g1] at h2; cases h2
    · rw [Nat.zero_add] at g1
      have hr := remDo_at (L := L) (name := name) g1
      unfold remAt at hr
      cases ha : (L.any fun p => asksM p.mod name) with
      | true => rw [ha, if_pos rfl] at hr; rw [hr] at h2; cases h2
      | false =>
        rw [ha, if_neg (by decide)] at hr
        refine ⟨h1, j, p, g1, g2, (Go.MapKept.bytes_beq _ _).1 g3, fun q hq => ?_, hr, by rw [hr] at h3; exact h3, by rw [e, hr]⟩
        rw [List.any_eq_false] at ha
        simpa using ha q hq
theorem up_ok {K : Ker} {L : List Plc} {M : Mod} (h : (planRes K L (upDo L M)).2 = 0) : chkRg K L = 0 ∧ chkMod M = 0 ∧ ∃ (j : Nat) (p : Plc) (f : Int), nameIx L M.name = (j : Int) ∧ L[j]? = some p ∧ p.mod.name = M.name ∧ roomOf (L.eraseIdx j) p.first (szM M) = some f ∧ upDo L M = (putAt (L.eraseIdx j) ⟨M, f⟩, 0) ∧ chkRg K (putAt (L.eraseIdx j) ⟨M, f⟩) = 0 ∧ planRes K L (upDo L M) = ((K, putAt (L.eraseIdx j) ⟨M, f⟩), 0) := by
  rcases plan_cases K L (upDo L M) with ⟨h1, e⟩ | ⟨_, h1, e⟩ | ⟨_, _, h1, e⟩ | ⟨h1, h2, h3, e⟩
  · rw [e] at h; exact absurd h h1
  · rw [e] at h; exact absurd h h1
  · rw [e] at h; exact absurd h h1
  · by_cases c1 : chkMod M = 0
    · rcases ix_spec (fun p : Plc => p.mod.name == M.name) L 0 with ⟨g1, _⟩ | ⟨j, p, g1, g2, g3, _⟩
      · rw [upDo_none c1 g1] at h2; cases h2
      · rw [Nat.zero_add] at g1
        have hr := upDo_at (L := L) c1 g1 g2
        cases hf : roomOf (L.eraseIdx j) p.first (szM M) with
        | none => rw [hr, hf] at h2; cases h2
        | some f =>
          rw [hf] at hr
          have hr' : upDo L M = (putAt (L.eraseIdx j) ⟨M, f⟩, 0) := hr
          exact ⟨h1, c1, j, p, f, g1, g2, (Go.MapKept.bytes_beq _ _).1 g3, hf, hr', by rw [hr'] at h3; exact h3, by rw [e, hr']⟩
    · rw [upDo_bad c1] at h2; exact absurd h2 c1

end Go.Proofs.YthmohjgdcjafkaeGreat

/- What is come to, both ways. -/
namespace Go.Proofs.YthmohjgdcjafkaeGreat
open Go.RowKit Go.PlainAid

theorem comeErr_zero {L : List Plc} {name : ByteArray} (h : comeErr L name = 0) : chkGraph L = 0 := by
  unfold comeErr at h
  split at h
  · exact absurd h ‹_›
  · omega
theorem chk_nodup {L : List Plc} (h : chkGraph L = 0) : ((L.map (·.mod)).map (·.name)).Nodup := by
  have := (chkGraph_zero.1 h).2.2
  rw [List.map_map]
  exact this
theorem ComeRes.err {nx : Mod → Mod → Bool} {L : List Plc} {name : ByteArray} {ss : List ByteArray} (h : ComeRes nx L name ss) (he : comeErr L name ≠ 0) : ss = [] := by
  rcases h with ⟨_, h⟩ | ⟨h, _⟩
  · exact h
  · exact absurd h he
theorem ComeRes.ok {nx : Mod → Mod → Bool} {L : List Plc} {name : ByteArray} {ss : List ByteArray} (h : ComeRes nx L name ss) (he : comeErr L name = 0) : ∃ f, f < L.length ∧ nameAt (L.map (·.mod)) f = name ∧ Comes nx (L.map (·.mod)) f ss := by
  rcases h with ⟨h, _⟩ | ⟨_, h⟩
  · exact absurd he h
  · exact h
theorem Comes.has {nx : Mod → Mod → Bool} {Ms : List Mod} (hd : (Ms.map (·.name)).Nodup) {f k : Nat} {ss : List ByteArray} (h : Comes nx Ms f ss) (hk : k < Ms.length) : nameAt Ms k ∈ ss ↔ Via (Next nx Ms) f k := by
  rw [h.2]
  constructor
  · rintro ⟨j, hj, he⟩
    rw [← nameAt_inj hd hj.lt_of.2 hk he]
    exact hj
  · exact fun hv => ⟨k, hv, rfl⟩
theorem turned_has {L : List Plc} {a b : ByteArray} {xs ys : List ByteArray} (ha : comeErr L a = 0) (hb : comeErr L b = 0) (hx : ComeRes nxNeed L a xs) (hy : ComeRes nxUse L b ys) : (xs.any fun y => y == b) = (ys.any fun y => y == a) := by
  have hd := chk_nodup (comeErr_zero ha)
  obtain ⟨fa, la, na, ca⟩ := hx.ok ha
  obtain ⟨fb, lb, nb, cb⟩ := hy.ok hb
  have la' : fa < (L.map (·.mod)).length := by simpa using la
  have lb' : fb < (L.map (·.mod)).length := by simpa using lb
  rw [Bool.eq_iff_iff, any_mem, any_mem, ← na, ← nb, ca.has hd lb', cb.has hd la', via_turn]
theorem turned_more {L : List Plc} {a b : ByteArray} {xs zs : List ByteArray} (ha : comeErr L a = 0) (hb : comeErr L b = 0) (hx : ComeRes nxNeed L a xs) (hz : ComeRes nxNeed L b zs) (h : (xs.any fun y => y == b) = true) : ∀ z ∈ zs, (xs.any fun y => y == z) = true := by
  have hd := chk_nodup (comeErr_zero ha)
  obtain ⟨fa, la, na, ca⟩ := hx.ok ha
  obtain ⟨fb, lb, nb, cb⟩ := hz.ok hb
  have lb' : fb < (L.map (·.mod)).length := by simpa using lb
  rw [any_mem, ← nb, ca.has hd lb'] at h
  intro z hz2
  rw [any_mem]
  obtain ⟨k, hk, rfl⟩ := (cb.2 z).1 hz2
  exact (ca.has hd hk.lt_of.2).2 (h.trans hk)

end Go.Proofs.YthmohjgdcjafkaeGreat

/- What an order is. -/
namespace Go.Proofs.YthmohjgdcjafkaeGreat
open Go.RowKit Go.PlainAid

theorem ord_err {L : List Plc} (h : (ordOf L).2 ≠ 0) : (ordOf L).1 = [] := by
  rcases ordOf_cases L with ⟨_, e⟩ | ⟨_, e⟩
  · rw [e]
  · rw [e] at h ⊢
    unfold ordRes at h ⊢
    split
    · rfl
    · rename_i c hc
      rw [hc] at h
      exact absurd rfl h
theorem ord_ok {L : List Plc} (h : (ordOf L).2 = 0) : chkGraph L = 0 ∧ orderFrom (risen L) (risen L).length [] = some (ordOf L).1 := by
  rcases ordOf_cases L with ⟨h1, e⟩ | ⟨h1, e⟩
  · rw [e] at h
    exact absurd h h1
  · refine ⟨h1, ?_⟩
    rw [e] at h ⊢
    unfold ordRes at h ⊢
    split
    · rename_i hc
      rw [hc] at h
      exact absurd h (by decide)
    · rename_i c hc
      exact hc
theorem comeErr_of {L : List Plc} {name : ByteArray} (h0 : chkGraph L = 0) {m : Mod} (hm : m ∈ L.map (·.mod)) (hn : m.name = name) : comeErr L name = 0 := by
  unfold comeErr
  rw [if_neg (by omega), if_pos]
  obtain ⟨p, hp, rfl⟩ := List.mem_map.1 hm
  exact List.any_eq_true.2 ⟨p, hp, (Go.MapKept.bytes_beq _ _).2 hn⟩
theorem ord_facts {L : List Plc} (h : (ordOf L).2 = 0) : (ordOf L).1.length = L.length ∧ ∀ (i : Nat) (x : ByteArray), (ordOf L).1[i]? = some x → comeErr L x = 0 ∧ (((ordOf L).1.take i).any fun y => y == x) = false ∧ ∀ ns, ComeRes nxNeed L x ns → ∀ z ∈ ns, (((ordOf L).1.take i).any fun y => y == z) = true := by
  obtain ⟨h0, h1⟩ := ord_ok h
  obtain ⟨h2, h3, _⟩ := order_stands .nil h1
  generalize (ordOf L).1 = c at *
  have hd := chk_nodup h0
  refine ⟨by rw [h3, (risen_perm L).length_eq]; simp, fun i x hx => ?_⟩
  obtain ⟨m, hm, hmx, hnot, _⟩ := h2.at i x hx
  have hm2 := (risen_perm L).mem_iff.1 hm
  have he := comeErr_of h0 hm2 hmx
  refine ⟨he, ?_, fun ns hns z hz => ?_⟩
  · rw [← Bool.not_eq_true, any_mem]
    exact hnot
  · obtain ⟨f, hf, hfn, hc⟩ := hns.ok he
    obtain ⟨k, hk, rfl⟩ := (hc.2 z).1 hz
    rw [any_mem]
    exact h2.via (risen_perm L) hd hk i (by rw [hfn]; exact hx)

theorem RowOf.take {α : Type} {sz : Nat} {cells : α → Nat → Value} {n₀ : Nat} {W : World} {a : Option Addr} {n cap : Nat} {l : List α} (h : RowOf sz cells n₀ W (.slice a n cap) l) (k : Nat) (hk : k ≤ l.length) : RowOf sz cells n₀ W (.slice a k cap) (l.take k) := by
  obtain ⟨a', cap', e, hm, h⟩ := h
  injection e with e1 e2 e3
  subst e1 e3
  refine ⟨a, cap, by rw [List.length_take, Nat.min_eq_left hk], by rw [List.length_take]; omega, ?_⟩
  rcases h with h | ⟨b, off, rfl, hb, hc⟩
  · exact .inl (by rw [h]; simp)
  · refine .inr ⟨b, off, rfl, hb, fun j x hj i hi => hc j x ?_ i hi⟩
    rw [List.getElem?_take] at hj
    split at hj
    · exact hj
    · cases hj

end Go.Proofs.YthmohjgdcjafkaeGreat

/- What is installed can be removed, and be put in anew: as data. -/
namespace Go.Proofs.YthmohjgdcjafkaeGreat
open Go.RowKit Go.PlainAid Go.Lib

theorem asks_self {K : Ker} {L : List Plc} (h : chkRg K L = 0) : ∀ p ∈ L, asksM p.mod p.mod.name = false := by
  intro p hp
  cases ha : asksM p.mod p.mod.name with
  | false => rfl
  | true =>
    exfalso
    obtain ⟨h0, h1⟩ := ord_ok (chkRg_zero h).2.1
    obtain ⟨h2, h3, _⟩ := order_stands .nil h1
    obtain ⟨i, hi⟩ := List.mem_iff_getElem?.1 hp
    have hm : (L.map (·.mod))[i]? = some p.mod := by rw [List.getElem?_map, hi]; rfl
    exact h2.noRound (risen_perm L) (chk_nodup h0) (by rw [h3, (risen_perm L).length_eq]; simp) i (Via.one ⟨p.mod, p.mod, hm, hm, ha⟩)
theorem addrs_all {K : Ker} {L : List Plc} : ∀ {is : List Imp} {acc : List Int}, (addrsFrom K L acc is).2 = 0 → ∀ i ∈ is, (addrOf K L i).2 = 0
  | [], _, _, i, hi => by simp at hi
  | x :: r, acc, h, i, hi => by
    unfold addrsFrom at h
    by_cases hx : (addrOf K L x).2 = 0
    · rw [if_neg (by omega)] at h
      rcases List.mem_cons.1 hi with rfl | hi
      · exact hx
      · exact addrs_all h i hi
    · rw [if_pos hx] at h
      exact absurd h hx
theorem all_right {K : Ker} {L : List Plc} (h : chkRg K L = 0) {p : Plc} (hp : p ∈ L) : ∀ i ∈ p.mod.imps, (addrOf K L i).2 = 0 := by
  obtain ⟨h1, h2, h3⟩ := chkRg_zero h
  have hr := (chkLink_zero h1).2.1
  obtain ⟨_, e, h4⟩ := areaOf_zero h3
  obtain ⟨g1, _, g3, _⟩ := area_byte (K := K) (L := L) L ⟨#[]⟩ 0 (chkReg_zero.1 hr).2.2 (Nat.le_refl _) h4
  have hi := (g3 p hp).1
  have n1 : (allRes K L p.mod).2 = 0 := by
    rcases imgRes_cases K L p with ⟨n1, e⟩ | ⟨n1, n2, e⟩ | ⟨n1, _, _⟩
    · rw [e] at hi; exact absurd hi n1
    · exact n1
    · exact n1
  rcases allRes_cases K L p.mod with ⟨c, e⟩ | ⟨_, c, e⟩ | ⟨_, _, e⟩
  · rw [e] at n1; exact absurd n1 c
  · rw [e] at n1; exact absurd n1 c
  · rw [e] at n1
    exact addrs_all n1
theorem asks_there {K : Ker} {L : List Plc} (h : chkRg K L = 0) {p : Plc} (hp : p ∈ L) {n : ByteArray} (ha : asksM p.mod n = true) : n = kernelName ∨ ∃ q ∈ L, q.mod.name = n := by
  unfold asksM at ha
  obtain ⟨i, hi, hn⟩ := List.any_eq_true.1 ha
  obtain rfl := (Go.MapKept.bytes_beq _ _).1 hn
  have h0 := all_right h hp i hi
  unfold addrOf at h0
  cases ht : tgtOf K L i.mod with
  | none => rw [ht] at h0; cases h0
  | some t =>
    unfold tgtOf at ht
    cases hk : (i.mod == kernelName) with
    | true => exact .inl ((Go.MapKept.bytes_beq _ _).1 hk)
    | false =>
      rw [hk, if_neg (by decide)] at ht
      cases hf : L.find? fun p => p.mod.name == i.mod with
      | none => rw [hf] at ht; cases ht
      | some q =>
        have := List.find?_some hf
        exact .inr ⟨q, List.mem_of_find?_eq_some hf, (Go.MapKept.bytes_beq _ _).1 (by simpa using this)⟩
theorem putI_erase {α : Type} (l : List α) (i : Nat) (x : α) (hi : i ≤ l.length) : (putI l i x).eraseIdx i = l ∧ (putI l i x)[i]? = some x := by
  unfold putI
  have ht : (l.take i).length = i := by rw [List.length_take]; omega
  refine ⟨?_, ?_⟩
  · rw [List.eraseIdx_append_of_length_le (by omega), ht, Nat.sub_self, List.eraseIdx_cons_zero, List.take_append_drop]
  · rw [List.getElem?_append_right (by omega), ht, Nat.sub_self]
    rfl
theorem put_at (L : List Plc) (x : Plc) : ∃ i : Nat, i ≤ L.length ∧ putAt L x = putI L i x := by
  rcases put_cases L x with ⟨_, h⟩ | ⟨j, h1, _, h⟩
  · exact ⟨_, Nat.le_refl _, h⟩
  · exact ⟨j, Nat.le_of_lt h1, h⟩
theorem back_data {K : Ker} {L : List Plc} {M : Mod} (h : (planRes K L (instDo L M)).2 = 0) : ∃ L', planRes K L (instDo L M) = ((K, L'), 0) ∧ (planRes K L' (instDo L' M)).2 = 6 ∧ planRes K L' (remDo L' M.name) = ((K, L), 0) ∧ planRes K L' (upDo L' M) = ((K, L'), 0) := by
  obtain ⟨h1, h2, h3, h4, f, h5, h6, h7, h8⟩ := inst_ok h
  refine ⟨putAt L ⟨M, f⟩, h8, ?_, ?_, ?_⟩
  all_goals
    have hmem : (⟨M, f⟩ : Plc) ∈ putAt L ⟨M, f⟩ := mem_putAt.2 (.inl rfl)
  · have hany : ((putAt L ⟨M, f⟩).any fun p => p.mod.name == M.name) = true := List.any_eq_true.2 ⟨_, hmem, (Go.MapKept.bytes_beq _ _).2 rfl⟩
    have hd : instDo (putAt L ⟨M, f⟩) M = ([], 6) := by
      unfold instDo
      rw [if_neg (by omega), hany, if_pos rfl]
    rw [hd]
    unfold planRes
    rw [if_neg (by omega), if_pos (by decide)]
  all_goals
    obtain ⟨i, hi, hp⟩ := put_at L ⟨M, f⟩
    have he := putI_erase L i (⟨M, f⟩ : Plc) hi
    rw [← hp] at he
    have hix : nameIx (putAt L ⟨M, f⟩) M.name = (i : Int) := by
      have := ix_name 0 (rg_names h7) he.2
      rw [Nat.zero_add] at this
      exact this
  · have hr : remDo (putAt L ⟨M, f⟩) M.name = (L, 0) := by
      rw [remDo_at hix]
      unfold remAt
      rw [he.1, if_neg]
      intro ha
      obtain ⟨p, hp', ha⟩ := List.any_eq_true.1 ha
      rcases mem_putAt.1 hp' with rfl | hp'
      · rw [asks_self h7 _ hmem] at ha
        cases ha
      · rcases asks_there h1 hp' ha with hk | ⟨q, hq, hn⟩
        · have := (chkMod_exps h2).2.2.2.2.2.2
          rw [hk, (Go.MapKept.bytes_beq _ _).2 rfl] at this
          cases this
        · exact h3 q hq hn
    rw [hr]
    unfold planRes
    rw [if_neg (by omega), if_neg (by simp), if_neg (by simpa using h1)]
  · have hu : upDo (putAt L ⟨M, f⟩) M = (putAt L ⟨M, f⟩, 0) := by
      have hs := szM_bd h2
      rw [upDo_at h2 hix he.2, room_same (many := szM M) (rg_reg h7) he.2 (by omega) (Nat.le_refl _), he.1]
      rfl
    rw [hu]
    unfold planRes
    rw [if_neg (by omega), if_neg (by simp), if_neg (by simpa using h7)]

end Go.Proofs.YthmohjgdcjafkaeGreat

/- The walk of the law PlanBack: it returns true. Printed by genpb.py. -/
namespace Go.Proofs.YthmohjgdcjafkaeGreat.planBack
open Go.RowKit Go.PlainAid Go.Lib

set_option maxRecDepth 100000

set_option maxHeartbeats 16000000 in
theorem walkE (K : Ker) (l : List PV) (v : Value) (M : Mod) (vm : Value) (w : World) (h : IsReg w.heap.size w v K l) (hf : K.fits) (hfit : ∀ x ∈ l, x.mod.fits) (hm : IsMod w.heap.size w vm M) (hmf : M.fits) (h0 : ¬ (planRes K (l.map PV.plc) (instDo (l.map PV.plc) M)).2 = 0) :
    Calls Tryz.prog 5 #[v, vm] w fun e w' => e = .returned (.bool true) ∧ Below w.heap.size w w' := by
  have HIN : Hid (∀ W, IsReg W.heap.size W v K l → IsMod W.heap.size W vm M → Calls Tryz.prog 9 #[v, vm] W fun e w' => (∃ (v' : Value) (ce : Int), ce ≠ 0 ∧ e = .returned (.tuple #[v', .int .i64 ce]) ∧ IsReg w'.heap.size w' v' emptyK []) ∧ Below W.heap.size W w') := fun W hr hM => by
    refine (plInstall_any K l v M vm W hr hf hfit hM hmf).mono ?_
    rintro e w' ⟨⟨v', l', rfl, hp, _, ho⟩, hb⟩
    have hi := planRes_reg hp ho
    rcases plan_cases K (l.map PV.plc) (instDo (l.map PV.plc) M) with ⟨g, e⟩ | ⟨_, g, e⟩ | ⟨_, _, g, e⟩ | ⟨_, _, _, e⟩
    · rw [e] at hp hi ⊢
      obtain rfl : l' = [] := List.map_eq_nil_iff.1 hp
      exact ⟨⟨v', _, g, rfl, hi⟩, hb⟩
    · rw [e] at hp hi ⊢
      obtain rfl : l' = [] := List.map_eq_nil_iff.1 hp
      exact ⟨⟨v', _, g, rfl, hi⟩, hb⟩
    · rw [e] at hp hi ⊢
      obtain rfl : l' = [] := List.map_eq_nil_iff.1 hp
      exact ⟨⟨v', _, g, rfl, hi⟩, hb⟩
    · rw [e] at h0
      exact absurd rfl h0
  have HR_r : Hid (IsReg w.heap.size w v K l) := h
  have HM_m : Hid (IsMod w.heap.size w vm M) := hm
  obtain ⟨qe, je, a, cap, rfl⟩ := h.shape0
  obtain ⟨vxe, vxi, vxp, rfl, hxE, hxI, hxP⟩ := hm
  obtain ⟨pe, ke, e4, -⟩ := hxE
  obtain ⟨pi, ki, e5, -⟩ := hxI
  obtain ⟨pp, kp, e6, -⟩ := hxP
  subst e4 e5 e6
  clear h hf hfit hmf h0
  generalize hlk : K.exps.length = lk at *
  have HLK : Hid (K.exps.length = lk) := hlk
  clear hlk
  generalize M.exps.length = le at *
  generalize M.imps.length = li at *
  generalize M.pats.length = lp at *
  have HB0 : Hid (Below w.heap.size w w) := Below.refl _ _
  go_enter Tryz.func5, Tryz.ntmps5
  have ba : Below w.heap.size w (w.alloc (.cells #[.int .i64 K.major, .int .i64 K.minor, .slice qe lk je, .slice a l.length cap] 27)) := (Below.refl _ _).alloc (Nat.le_refl _) _
  have olw_g1 : w.heap.size ≤ w.heap.size := HB0.out.size
  have HB1 : Hid (Below w.heap.size w (w.alloc (.cells #[.int .i64 K.major, .int .i64 K.minor, .slice qe lk je, .slice a l.length cap] 27))) := HB0.out.trans (ba.mono HB0.out.size)
  have HR1_r : Hid (IsReg (w.alloc (.cells #[.int .i64 K.major, .int .i64 K.minor, .slice qe lk je, .slice a l.length cap] 27)).heap.size (w.alloc (.cells #[.int .i64 K.major, .int .i64 K.minor, .slice qe lk je, .slice a l.length cap] 27)) (.agg #[.int .i64 K.major, .int .i64 K.minor, .slice qe lk je, .slice a l.length cap]) K l) := (HR_r.out.below ba).more ba.size
  have HM1_m : Hid (IsMod (w.alloc (.cells #[.int .i64 K.major, .int .i64 K.minor, .slice qe lk je, .slice a l.length cap] 27)).heap.size (w.alloc (.cells #[.int .i64 K.major, .int .i64 K.minor, .slice qe lk je, .slice a l.length cap] 27)) (.agg #[.string M.name, .int .i64 M.major, .int .i64 M.minor, .string M.text, .slice pe le ke, .slice pi li ki, .slice pp lp kp]) M) := (HM_m.out.below ba).more ba.size
  clear HB0 HR_r HM_m
  clear ba
  have HC2_g1 : Hid (CellsAt (w.alloc (.cells #[.int .i64 K.major, .int .i64 K.minor, .slice qe lk je, .slice a l.length cap] 27)) w.heap.size 27 #[.int .i64 K.major, .int .i64 K.minor, .slice qe lk je, .slice a l.length cap]) := CellsAt.new _ _ _
  have ba : Below (w.alloc (.cells #[.int .i64 K.major, .int .i64 K.minor, .slice qe lk je, .slice a l.length cap] 27)).heap.size (w.alloc (.cells #[.int .i64 K.major, .int .i64 K.minor, .slice qe lk je, .slice a l.length cap] 27)) ((w.alloc (.cells #[.int .i64 K.major, .int .i64 K.minor, .slice qe lk je, .slice a l.length cap] 27)).alloc (.cells #[.string M.name, .int .i64 M.major, .int .i64 M.minor, .string M.text, .slice pe le ke, .slice pi li ki, .slice pp lp kp] 31)) := (Below.refl _ _).alloc (Nat.le_refl _) _
  have ol_g1_g2 : w.heap.size < (w.alloc (.cells #[.int .i64 K.major, .int .i64 K.minor, .slice qe lk je, .slice a l.length cap] 27)).heap.size := CellsAt.lt HC2_g1.out
  have olw_g2 : w.heap.size ≤ (w.alloc (.cells #[.int .i64 K.major, .int .i64 K.minor, .slice qe lk je, .slice a l.length cap] 27)).heap.size := HB1.out.size
  have HB3 : Hid (Below w.heap.size w ((w.alloc (.cells #[.int .i64 K.major, .int .i64 K.minor, .slice qe lk je, .slice a l.length cap] 27)).alloc (.cells #[.string M.name, .int .i64 M.major, .int .i64 M.minor, .string M.text, .slice pe le ke, .slice pi li ki, .slice pp lp kp] 31))) := HB1.out.trans (ba.mono HB1.out.size)
  have HC3_g1 : Hid (CellsAt ((w.alloc (.cells #[.int .i64 K.major, .int .i64 K.minor, .slice qe lk je, .slice a l.length cap] 27)).alloc (.cells #[.string M.name, .int .i64 M.major, .int .i64 M.minor, .string M.text, .slice pe le ke, .slice pi li ki, .slice pp lp kp] 31)) w.heap.size 27 #[.int .i64 K.major, .int .i64 K.minor, .slice qe lk je, .slice a l.length cap]) := HC2_g1.out.below ba HC2_g1.out.lt
  have HR3_r : Hid (IsReg ((w.alloc (.cells #[.int .i64 K.major, .int .i64 K.minor, .slice qe lk je, .slice a l.length cap] 27)).alloc (.cells #[.string M.name, .int .i64 M.major, .int .i64 M.minor, .string M.text, .slice pe le ke, .slice pi li ki, .slice pp lp kp] 31)).heap.size ((w.alloc (.cells #[.int .i64 K.major, .int .i64 K.minor, .slice qe lk je, .slice a l.length cap] 27)).alloc (.cells #[.string M.name, .int .i64 M.major, .int .i64 M.minor, .string M.text, .slice pe le ke, .slice pi li ki, .slice pp lp kp] 31)) (.agg #[.int .i64 K.major, .int .i64 K.minor, .slice qe lk je, .slice a l.length cap]) K l) := (HR1_r.out.below ba).more ba.size
  have HM3_m : Hid (IsMod ((w.alloc (.cells #[.int .i64 K.major, .int .i64 K.minor, .slice qe lk je, .slice a l.length cap] 27)).alloc (.cells #[.string M.name, .int .i64 M.major, .int .i64 M.minor, .string M.text, .slice pe le ke, .slice pi li ki, .slice pp lp kp] 31)).heap.size ((w.alloc (.cells #[.int .i64 K.major, .int .i64 K.minor, .slice qe lk je, .slice a l.length cap] 27)).alloc (.cells #[.string M.name, .int .i64 M.major, .int .i64 M.minor, .string M.text, .slice pe le ke, .slice pi li ki, .slice pp lp kp] 31)) (.agg #[.string M.name, .int .i64 M.major, .int .i64 M.minor, .string M.text, .slice pe le ke, .slice pi li ki, .slice pp lp kp]) M) := (HM1_m.out.below ba).more ba.size
  clear HB1 HC2_g1 HR1_r HM1_m
  clear ba
  have HC4_g2 : Hid (CellsAt ((w.alloc (.cells #[.int .i64 K.major, .int .i64 K.minor, .slice qe lk je, .slice a l.length cap] 27)).alloc (.cells #[.string M.name, .int .i64 M.major, .int .i64 M.minor, .string M.text, .slice pe le ke, .slice pi li ki, .slice pp lp kp] 31)) (w.alloc (.cells #[.int .i64 K.major, .int .i64 K.minor, .slice qe lk je, .slice a l.length cap] 27)).heap.size 31 #[.string M.name, .int .i64 M.major, .int .i64 M.minor, .string M.text, .slice pe le ke, .slice pi li ki, .slice pp lp kp]) := CellsAt.new _ _ _
  rw [World.size_alloc] at HC4_g2
  clear ol_g1_g2 olw_g2 olw_g1
  go_wp2_with fail
  refine (planBegun_any _).mono ?_
  generalize ((w.alloc (.cells #[.int .i64 K.major, .int .i64 K.minor, .slice qe lk je, .slice a l.length cap] 27)).alloc (.cells #[.string M.name, .int .i64 M.major, .int .i64 M.minor, .string M.text, .slice pe le ke, .slice pi li ki, .slice pp lp kp] 31)) = w2 at *
  rintro e w3 ⟨rfl, b3⟩
  have HB5 : Hid (Below w.heap.size w w3) := HB3.out.trans (b3.mono HB3.out.size)
  have HC5_g1 : Hid (CellsAt w3 w.heap.size 27 #[.int .i64 K.major, .int .i64 K.minor, .slice qe lk je, .slice a l.length cap]) := HC3_g1.out.below b3 HC3_g1.out.lt
  have HC5_g2 : Hid (CellsAt w3 (w.heap.size + 1) 31 #[.string M.name, .int .i64 M.major, .int .i64 M.minor, .string M.text, .slice pe le ke, .slice pi li ki, .slice pp lp kp]) := HC4_g2.out.below b3 HC4_g2.out.lt
  have HR5_r : Hid (IsReg w3.heap.size w3 (.agg #[.int .i64 K.major, .int .i64 K.minor, .slice qe lk je, .slice a l.length cap]) K l) := (HR3_r.out.below b3).more b3.size
  have HM5_m : Hid (IsMod w3.heap.size w3 (.agg #[.string M.name, .int .i64 M.major, .int .i64 M.minor, .string M.text, .slice pe le ke, .slice pi li ki, .slice pp lp kp]) M) := (HM3_m.out.below b3).more b3.size
  clear HB3 HC3_g1 HC4_g2 HR3_r HM3_m
  clear b3
  have rg10 := CellsAt.cell HC5_g1.out 0
  have rg11 := CellsAt.cell HC5_g1.out 1
  have rg12 := CellsAt.cell HC5_g1.out 2
  have rg13 := CellsAt.cell HC5_g1.out 3
  have rg1l := CellsAt.lt HC5_g1.out
  simp at rg10 rg11 rg12 rg13
  have rg20 := CellsAt.cell HC5_g2.out 0
  have rg21 := CellsAt.cell HC5_g2.out 1
  have rg22 := CellsAt.cell HC5_g2.out 2
  have rg23 := CellsAt.cell HC5_g2.out 3
  have rg24 := CellsAt.cell HC5_g2.out 4
  have rg25 := CellsAt.cell HC5_g2.out 5
  have rg26 := CellsAt.cell HC5_g2.out 6
  have rg2l := CellsAt.lt HC5_g2.out
  simp at rg20 rg21 rg22 rg23 rg24 rg25 rg26
  go_wp2_with fail
  clear rg10 rg11 rg12 rg13 rg1l
  clear rg20 rg21 rg22 rg23 rg24 rg25 rg26 rg2l
  refine (HIN.out _ HR5_r.out HM5_m.out).mono ?_
  rintro e w4 ⟨⟨v4, ce, hce, rfl, hi4⟩, b4⟩
  have HB6 : Hid (Below w.heap.size w w4) := HB5.out.trans (b4.mono HB5.out.size)
  have HC6_g1 : Hid (CellsAt w4 w.heap.size 27 #[.int .i64 K.major, .int .i64 K.minor, .slice qe lk je, .slice a l.length cap]) := HC5_g1.out.below b4 HC5_g1.out.lt
  have HC6_g2 : Hid (CellsAt w4 (w.heap.size + 1) 31 #[.string M.name, .int .i64 M.major, .int .i64 M.minor, .string M.text, .slice pe le ke, .slice pi li ki, .slice pp lp kp]) := HC5_g2.out.below b4 HC5_g2.out.lt
  have HR6_r : Hid (IsReg w4.heap.size w4 (.agg #[.int .i64 K.major, .int .i64 K.minor, .slice qe lk je, .slice a l.length cap]) K l) := (HR5_r.out.below b4).more b4.size
  have HM6_m : Hid (IsMod w4.heap.size w4 (.agg #[.string M.name, .int .i64 M.major, .int .i64 M.minor, .string M.text, .slice pe le ke, .slice pi li ki, .slice pp lp kp]) M) := (HM5_m.out.below b4).more b4.size
  clear HB5 HC5_g1 HC5_g2 HR5_r HM5_m
  obtain ⟨q4, j4, a4, c4, rfl⟩ := hi4.shape0
  dsimp only [emptyK, List.length_nil]
  have hce' : (ce != 0) = true := by simpa using hce
  clear b4 hi4 hce HIN
  have ba : Below w4.heap.size w4 (w4.alloc (.cells #[.int .i64 0, .int .i64 0, .slice q4 0 j4, .slice a4 0 c4] 27)) := (Below.refl _ _).alloc (Nat.le_refl _) _
  have ol_g1_g5 : w.heap.size < w4.heap.size := CellsAt.lt HC6_g1.out
  have ol_g2_g5 : (w.heap.size + 1) < w4.heap.size := CellsAt.lt HC6_g2.out
  have olw_g5 : w.heap.size ≤ w4.heap.size := HB6.out.size
  have HB7 : Hid (Below w.heap.size w (w4.alloc (.cells #[.int .i64 0, .int .i64 0, .slice q4 0 j4, .slice a4 0 c4] 27))) := HB6.out.trans (ba.mono HB6.out.size)
  have HC7_g1 : Hid (CellsAt (w4.alloc (.cells #[.int .i64 0, .int .i64 0, .slice q4 0 j4, .slice a4 0 c4] 27)) w.heap.size 27 #[.int .i64 K.major, .int .i64 K.minor, .slice qe lk je, .slice a l.length cap]) := HC6_g1.out.below ba HC6_g1.out.lt
  have HC7_g2 : Hid (CellsAt (w4.alloc (.cells #[.int .i64 0, .int .i64 0, .slice q4 0 j4, .slice a4 0 c4] 27)) (w.heap.size + 1) 31 #[.string M.name, .int .i64 M.major, .int .i64 M.minor, .string M.text, .slice pe le ke, .slice pi li ki, .slice pp lp kp]) := HC6_g2.out.below ba HC6_g2.out.lt
  have HR7_r : Hid (IsReg (w4.alloc (.cells #[.int .i64 0, .int .i64 0, .slice q4 0 j4, .slice a4 0 c4] 27)).heap.size (w4.alloc (.cells #[.int .i64 0, .int .i64 0, .slice q4 0 j4, .slice a4 0 c4] 27)) (.agg #[.int .i64 K.major, .int .i64 K.minor, .slice qe lk je, .slice a l.length cap]) K l) := (HR6_r.out.below ba).more ba.size
  have HM7_m : Hid (IsMod (w4.alloc (.cells #[.int .i64 0, .int .i64 0, .slice q4 0 j4, .slice a4 0 c4] 27)).heap.size (w4.alloc (.cells #[.int .i64 0, .int .i64 0, .slice q4 0 j4, .slice a4 0 c4] 27)) (.agg #[.string M.name, .int .i64 M.major, .int .i64 M.minor, .string M.text, .slice pe le ke, .slice pi li ki, .slice pp lp kp]) M) := (HM6_m.out.below ba).more ba.size
  clear HB6 HC6_g1 HC6_g2 HR6_r HM6_m
  clear ba
  have HC8_g5 : Hid (CellsAt (w4.alloc (.cells #[.int .i64 0, .int .i64 0, .slice q4 0 j4, .slice a4 0 c4] 27)) w4.heap.size 27 #[.int .i64 0, .int .i64 0, .slice q4 0 j4, .slice a4 0 c4]) := CellsAt.new _ _ _
  go_upto_region 4 with fail
  generalize (w4.alloc (.cells #[.int .i64 0, .int .i64 0, .slice q4 0 j4, .slice a4 0 c4] 27)) = w5 at *
  generalize w4.heap.size = g5 at *
  have rg50 := CellsAt.cell HC8_g5.out 0
  have rg51 := CellsAt.cell HC8_g5.out 1
  have rg52 := CellsAt.cell HC8_g5.out 2
  have rg53 := CellsAt.cell HC8_g5.out 3
  have rg5l := CellsAt.lt HC8_g5.out
  simp at rg50 rg51 rg52 rg53
  go_wp2
  go_ret
  exact ⟨rfl, HB7.out⟩

set_option maxHeartbeats 16000000 in
theorem walk0 (K : Ker) (l : List PV) (v : Value) (M : Mod) (vm : Value) (w : World) (h : IsReg w.heap.size w v K l) (hf : K.fits) (hfit : ∀ x ∈ l, x.mod.fits) (hm : IsMod w.heap.size w vm M) (hmf : M.fits) (h0 : (planRes K (l.map PV.plc) (instDo (l.map PV.plc) M)).2 = 0) :
    Calls Tryz.prog 5 #[v, vm] w fun e w' => e = .returned (.bool true) ∧ Below w.heap.size w w' := by
  obtain ⟨L', hd1, hd2, hd3, hd4⟩ := back_data h0
  have HIN : Hid (∀ W, IsReg W.heap.size W v K l → IsMod W.heap.size W vm M → Calls Tryz.prog 9 #[v, vm] W fun e w' => (∃ (v' : Value) (l' : List PV), e = .returned (.tuple #[v', .int .i64 0]) ∧ l'.map PV.plc = L' ∧ (∀ x ∈ l', x.mod.fits) ∧ IsReg w'.heap.size w' v' K l') ∧ Below W.heap.size W w') := fun W hr hM => by
    refine (plInstall_any K l v M vm W hr hf hfit hM hmf).mono ?_
    rintro e w' ⟨⟨v', l', rfl, hp, hft, ho⟩, hb⟩
    have hi := planRes_reg hp ho
    rw [hd1] at hp hi ⊢
    exact ⟨⟨v', l', rfl, hp, hft, hi⟩, hb⟩
  have HI2 : Hid (∀ (l1 : List PV) v1 W, l1.map PV.plc = L' → (∀ x ∈ l1, x.mod.fits) → IsReg W.heap.size W v1 K l1 → IsMod W.heap.size W vm M → Calls Tryz.prog 9 #[v1, vm] W fun e w' => (∃ (v' : Value), e = .returned (.tuple #[v', .int .i64 6]) ∧ IsReg w'.heap.size w' v' emptyK []) ∧ Below W.heap.size W w') := fun l1 v1 W hl hft hr hM => by
    refine (plInstall_any K l1 v1 M vm W hr hf hft hM hmf).mono ?_
    rintro e w' ⟨⟨v', l', rfl, hp, _, ho⟩, hb⟩
    have hi := planRes_reg hp ho
    rw [hl] at hp hi ⊢
    rcases plan_cases K L' (instDo L' M) with ⟨g, e⟩ | ⟨_, g, e⟩ | ⟨_, _, g, e⟩ | ⟨_, _, _, e⟩
    · rw [hd2]
      rw [e] at hp hi
      obtain rfl : l' = [] := List.map_eq_nil_iff.1 hp
      exact ⟨⟨v', rfl, hi⟩, hb⟩
    · rw [hd2]
      rw [e] at hp hi
      obtain rfl : l' = [] := List.map_eq_nil_iff.1 hp
      exact ⟨⟨v', rfl, hi⟩, hb⟩
    · rw [hd2]
      rw [e] at hp hi
      obtain rfl : l' = [] := List.map_eq_nil_iff.1 hp
      exact ⟨⟨v', rfl, hi⟩, hb⟩
    · rw [e] at hd2
      cases hd2
  have HR2 : Hid (∀ (l1 : List PV) v1 W, l1.map PV.plc = L' → (∀ x ∈ l1, x.mod.fits) → IsReg W.heap.size W v1 K l1 → Calls Tryz.prog 10 #[v1, .string M.name] W fun e w' => (∃ (v' : Value) (l' : List PV), e = .returned (.tuple #[v', .int .i64 0]) ∧ l'.map PV.plc = l.map PV.plc ∧ IsReg w'.heap.size w' v' K l') ∧ Below W.heap.size W w') := fun l1 v1 W hl hft hr => by
    refine (plRemove_any K l1 v1 M.name W hr hf hft).mono ?_
    rintro e w' ⟨⟨v', l', rfl, hp, _, ho⟩, hb⟩
    have hi := planRes_reg hp ho
    rw [hl, hd3] at hp hi ⊢
    exact ⟨⟨v', l', rfl, hp, hi⟩, hb⟩
  have HU2 : Hid (∀ (l1 : List PV) v1 W, l1.map PV.plc = L' → (∀ x ∈ l1, x.mod.fits) → IsReg W.heap.size W v1 K l1 → IsMod W.heap.size W vm M → Calls Tryz.prog 11 #[v1, vm] W fun e w' => (∃ (v' : Value) (l' : List PV), e = .returned (.tuple #[v', .int .i64 0]) ∧ l'.map PV.plc = L' ∧ IsReg w'.heap.size w' v' K l') ∧ Below W.heap.size W w') := fun l1 v1 W hl hft hr hM => by
    refine (plUpgrade_any K l1 v1 M vm W hr hf hft hM hmf).mono ?_
    rintro e w' ⟨⟨v', l', rfl, hp, _, ho⟩, hb⟩
    have hi := planRes_reg hp ho
    rw [hl, hd4] at hp hi ⊢
    exact ⟨⟨v', l', rfl, hp, hi⟩, hb⟩
  have HR_r : Hid (IsReg w.heap.size w v K l) := h
  have HM_m : Hid (IsMod w.heap.size w vm M) := hm
  obtain ⟨qe, je, a, cap, rfl⟩ := h.shape0
  obtain ⟨vxe, vxi, vxp, rfl, hxE, hxI, hxP⟩ := hm
  obtain ⟨pe, ke, e4, -⟩ := hxE
  obtain ⟨pi, ki, e5, -⟩ := hxI
  obtain ⟨pp, kp, e6, -⟩ := hxP
  subst e4 e5 e6
  clear h hf hfit hmf h0 hd1 hd2 hd3 hd4
  generalize hlk : K.exps.length = lk at *
  have HLK : Hid (K.exps.length = lk) := hlk
  clear hlk
  generalize M.exps.length = le at *
  generalize M.imps.length = li at *
  generalize M.pats.length = lp at *
  have HB0 : Hid (Below w.heap.size w w) := Below.refl _ _
  go_enter Tryz.func5, Tryz.ntmps5
  have ba : Below w.heap.size w (w.alloc (.cells #[.int .i64 K.major, .int .i64 K.minor, .slice qe lk je, .slice a l.length cap] 27)) := (Below.refl _ _).alloc (Nat.le_refl _) _
  have olw_g1 : w.heap.size ≤ w.heap.size := HB0.out.size
  have HB1 : Hid (Below w.heap.size w (w.alloc (.cells #[.int .i64 K.major, .int .i64 K.minor, .slice qe lk je, .slice a l.length cap] 27))) := HB0.out.trans (ba.mono HB0.out.size)
  have HR1_r : Hid (IsReg (w.alloc (.cells #[.int .i64 K.major, .int .i64 K.minor, .slice qe lk je, .slice a l.length cap] 27)).heap.size (w.alloc (.cells #[.int .i64 K.major, .int .i64 K.minor, .slice qe lk je, .slice a l.length cap] 27)) (.agg #[.int .i64 K.major, .int .i64 K.minor, .slice qe lk je, .slice a l.length cap]) K l) := (HR_r.out.below ba).more ba.size
  have HM1_m : Hid (IsMod (w.alloc (.cells #[.int .i64 K.major, .int .i64 K.minor, .slice qe lk je, .slice a l.length cap] 27)).heap.size (w.alloc (.cells #[.int .i64 K.major, .int .i64 K.minor, .slice qe lk je, .slice a l.length cap] 27)) (.agg #[.string M.name, .int .i64 M.major, .int .i64 M.minor, .string M.text, .slice pe le ke, .slice pi li ki, .slice pp lp kp]) M) := (HM_m.out.below ba).more ba.size
  clear HB0 HR_r HM_m
  clear ba
  have HC2_g1 : Hid (CellsAt (w.alloc (.cells #[.int .i64 K.major, .int .i64 K.minor, .slice qe lk je, .slice a l.length cap] 27)) w.heap.size 27 #[.int .i64 K.major, .int .i64 K.minor, .slice qe lk je, .slice a l.length cap]) := CellsAt.new _ _ _
  have ba : Below (w.alloc (.cells #[.int .i64 K.major, .int .i64 K.minor, .slice qe lk je, .slice a l.length cap] 27)).heap.size (w.alloc (.cells #[.int .i64 K.major, .int .i64 K.minor, .slice qe lk je, .slice a l.length cap] 27)) ((w.alloc (.cells #[.int .i64 K.major, .int .i64 K.minor, .slice qe lk je, .slice a l.length cap] 27)).alloc (.cells #[.string M.name, .int .i64 M.major, .int .i64 M.minor, .string M.text, .slice pe le ke, .slice pi li ki, .slice pp lp kp] 31)) := (Below.refl _ _).alloc (Nat.le_refl _) _
  have ol_g1_g2 : w.heap.size < (w.alloc (.cells #[.int .i64 K.major, .int .i64 K.minor, .slice qe lk je, .slice a l.length cap] 27)).heap.size := CellsAt.lt HC2_g1.out
  have olw_g2 : w.heap.size ≤ (w.alloc (.cells #[.int .i64 K.major, .int .i64 K.minor, .slice qe lk je, .slice a l.length cap] 27)).heap.size := HB1.out.size
  have HB3 : Hid (Below w.heap.size w ((w.alloc (.cells #[.int .i64 K.major, .int .i64 K.minor, .slice qe lk je, .slice a l.length cap] 27)).alloc (.cells #[.string M.name, .int .i64 M.major, .int .i64 M.minor, .string M.text, .slice pe le ke, .slice pi li ki, .slice pp lp kp] 31))) := HB1.out.trans (ba.mono HB1.out.size)
  have HC3_g1 : Hid (CellsAt ((w.alloc (.cells #[.int .i64 K.major, .int .i64 K.minor, .slice qe lk je, .slice a l.length cap] 27)).alloc (.cells #[.string M.name, .int .i64 M.major, .int .i64 M.minor, .string M.text, .slice pe le ke, .slice pi li ki, .slice pp lp kp] 31)) w.heap.size 27 #[.int .i64 K.major, .int .i64 K.minor, .slice qe lk je, .slice a l.length cap]) := HC2_g1.out.below ba HC2_g1.out.lt
  have HR3_r : Hid (IsReg ((w.alloc (.cells #[.int .i64 K.major, .int .i64 K.minor, .slice qe lk je, .slice a l.length cap] 27)).alloc (.cells #[.string M.name, .int .i64 M.major, .int .i64 M.minor, .string M.text, .slice pe le ke, .slice pi li ki, .slice pp lp kp] 31)).heap.size ((w.alloc (.cells #[.int .i64 K.major, .int .i64 K.minor, .slice qe lk je, .slice a l.length cap] 27)).alloc (.cells #[.string M.name, .int .i64 M.major, .int .i64 M.minor, .string M.text, .slice pe le ke, .slice pi li ki, .slice pp lp kp] 31)) (.agg #[.int .i64 K.major, .int .i64 K.minor, .slice qe lk je, .slice a l.length cap]) K l) := (HR1_r.out.below ba).more ba.size
  have HM3_m : Hid (IsMod ((w.alloc (.cells #[.int .i64 K.major, .int .i64 K.minor, .slice qe lk je, .slice a l.length cap] 27)).alloc (.cells #[.string M.name, .int .i64 M.major, .int .i64 M.minor, .string M.text, .slice pe le ke, .slice pi li ki, .slice pp lp kp] 31)).heap.size ((w.alloc (.cells #[.int .i64 K.major, .int .i64 K.minor, .slice qe lk je, .slice a l.length cap] 27)).alloc (.cells #[.string M.name, .int .i64 M.major, .int .i64 M.minor, .string M.text, .slice pe le ke, .slice pi li ki, .slice pp lp kp] 31)) (.agg #[.string M.name, .int .i64 M.major, .int .i64 M.minor, .string M.text, .slice pe le ke, .slice pi li ki, .slice pp lp kp]) M) := (HM1_m.out.below ba).more ba.size
  clear HB1 HC2_g1 HR1_r HM1_m
  clear ba
  have HC4_g2 : Hid (CellsAt ((w.alloc (.cells #[.int .i64 K.major, .int .i64 K.minor, .slice qe lk je, .slice a l.length cap] 27)).alloc (.cells #[.string M.name, .int .i64 M.major, .int .i64 M.minor, .string M.text, .slice pe le ke, .slice pi li ki, .slice pp lp kp] 31)) (w.alloc (.cells #[.int .i64 K.major, .int .i64 K.minor, .slice qe lk je, .slice a l.length cap] 27)).heap.size 31 #[.string M.name, .int .i64 M.major, .int .i64 M.minor, .string M.text, .slice pe le ke, .slice pi li ki, .slice pp lp kp]) := CellsAt.new _ _ _
  rw [World.size_alloc] at HC4_g2
  clear ol_g1_g2 olw_g2 olw_g1
  go_wp2_with fail
  refine (planBegun_any _).mono ?_
  generalize ((w.alloc (.cells #[.int .i64 K.major, .int .i64 K.minor, .slice qe lk je, .slice a l.length cap] 27)).alloc (.cells #[.string M.name, .int .i64 M.major, .int .i64 M.minor, .string M.text, .slice pe le ke, .slice pi li ki, .slice pp lp kp] 31)) = w2 at *
  rintro e w3 ⟨rfl, b3⟩
  have HB5 : Hid (Below w.heap.size w w3) := HB3.out.trans (b3.mono HB3.out.size)
  have HC5_g1 : Hid (CellsAt w3 w.heap.size 27 #[.int .i64 K.major, .int .i64 K.minor, .slice qe lk je, .slice a l.length cap]) := HC3_g1.out.below b3 HC3_g1.out.lt
  have HC5_g2 : Hid (CellsAt w3 (w.heap.size + 1) 31 #[.string M.name, .int .i64 M.major, .int .i64 M.minor, .string M.text, .slice pe le ke, .slice pi li ki, .slice pp lp kp]) := HC4_g2.out.below b3 HC4_g2.out.lt
  have HR5_r : Hid (IsReg w3.heap.size w3 (.agg #[.int .i64 K.major, .int .i64 K.minor, .slice qe lk je, .slice a l.length cap]) K l) := (HR3_r.out.below b3).more b3.size
  have HM5_m : Hid (IsMod w3.heap.size w3 (.agg #[.string M.name, .int .i64 M.major, .int .i64 M.minor, .string M.text, .slice pe le ke, .slice pi li ki, .slice pp lp kp]) M) := (HM3_m.out.below b3).more b3.size
  clear HB3 HC3_g1 HC4_g2 HR3_r HM3_m
  clear b3
  have rg10 := CellsAt.cell HC5_g1.out 0
  have rg11 := CellsAt.cell HC5_g1.out 1
  have rg12 := CellsAt.cell HC5_g1.out 2
  have rg13 := CellsAt.cell HC5_g1.out 3
  have rg1l := CellsAt.lt HC5_g1.out
  simp at rg10 rg11 rg12 rg13
  have rg20 := CellsAt.cell HC5_g2.out 0
  have rg21 := CellsAt.cell HC5_g2.out 1
  have rg22 := CellsAt.cell HC5_g2.out 2
  have rg23 := CellsAt.cell HC5_g2.out 3
  have rg24 := CellsAt.cell HC5_g2.out 4
  have rg25 := CellsAt.cell HC5_g2.out 5
  have rg26 := CellsAt.cell HC5_g2.out 6
  have rg2l := CellsAt.lt HC5_g2.out
  simp at rg20 rg21 rg22 rg23 rg24 rg25 rg26
  go_wp2_with fail
  clear rg10 rg11 rg12 rg13 rg1l
  clear rg20 rg21 rg22 rg23 rg24 rg25 rg26 rg2l
  refine (HIN.out _ HR5_r.out HM5_m.out).mono ?_
  rintro e w4 ⟨⟨vA, lA, rfl, hpA, hfA, hiA⟩, bA⟩
  have HB6 : Hid (Below w.heap.size w w4) := HB5.out.trans (bA.mono HB5.out.size)
  have HC6_g1 : Hid (CellsAt w4 w.heap.size 27 #[.int .i64 K.major, .int .i64 K.minor, .slice qe lk je, .slice a l.length cap]) := HC5_g1.out.below bA HC5_g1.out.lt
  have HC6_g2 : Hid (CellsAt w4 (w.heap.size + 1) 31 #[.string M.name, .int .i64 M.major, .int .i64 M.minor, .string M.text, .slice pe le ke, .slice pi li ki, .slice pp lp kp]) := HC5_g2.out.below bA HC5_g2.out.lt
  have HR6_r : Hid (IsReg w4.heap.size w4 (.agg #[.int .i64 K.major, .int .i64 K.minor, .slice qe lk je, .slice a l.length cap]) K l) := (HR5_r.out.below bA).more bA.size
  have HM6_m : Hid (IsMod w4.heap.size w4 (.agg #[.string M.name, .int .i64 M.major, .int .i64 M.minor, .string M.text, .slice pe le ke, .slice pi li ki, .slice pp lp kp]) M) := (HM5_m.out.below bA).more bA.size
  clear HB5 HC5_g1 HC5_g2 HR5_r HM5_m
  obtain ⟨qA, jA, aA, cA, rfl⟩ := hiA.shape0
  rw [HLK.out] at hiA ⊢
  have HPA : Hid (lA.map PV.plc = L') := hpA
  have HFTA : Hid (∀ x ∈ lA, x.mod.fits) := hfA
  clear hfA
  have HRNA : Hid (IsReg w4.heap.size w4 (.agg #[.int .i64 K.major, .int .i64 K.minor, .slice qA lk jA, .slice aA lA.length cA]) K lA) := hiA
  clear bA hiA hpA
  clear HIN
  have ba : Below w4.heap.size w4 (w4.alloc (.cells #[.int .i64 K.major, .int .i64 K.minor, .slice qA lk jA, .slice aA lA.length cA] 27)) := (Below.refl _ _).alloc (Nat.le_refl _) _
  have ol_g1_gA : w.heap.size < w4.heap.size := CellsAt.lt HC6_g1.out
  have ol_g2_gA : (w.heap.size + 1) < w4.heap.size := CellsAt.lt HC6_g2.out
  have olw_gA : w.heap.size ≤ w4.heap.size := HB6.out.size
  have HB7 : Hid (Below w.heap.size w (w4.alloc (.cells #[.int .i64 K.major, .int .i64 K.minor, .slice qA lk jA, .slice aA lA.length cA] 27))) := HB6.out.trans (ba.mono HB6.out.size)
  have HC7_g1 : Hid (CellsAt (w4.alloc (.cells #[.int .i64 K.major, .int .i64 K.minor, .slice qA lk jA, .slice aA lA.length cA] 27)) w.heap.size 27 #[.int .i64 K.major, .int .i64 K.minor, .slice qe lk je, .slice a l.length cap]) := HC6_g1.out.below ba HC6_g1.out.lt
  have HC7_g2 : Hid (CellsAt (w4.alloc (.cells #[.int .i64 K.major, .int .i64 K.minor, .slice qA lk jA, .slice aA lA.length cA] 27)) (w.heap.size + 1) 31 #[.string M.name, .int .i64 M.major, .int .i64 M.minor, .string M.text, .slice pe le ke, .slice pi li ki, .slice pp lp kp]) := HC6_g2.out.below ba HC6_g2.out.lt
  have HR7_r : Hid (IsReg (w4.alloc (.cells #[.int .i64 K.major, .int .i64 K.minor, .slice qA lk jA, .slice aA lA.length cA] 27)).heap.size (w4.alloc (.cells #[.int .i64 K.major, .int .i64 K.minor, .slice qA lk jA, .slice aA lA.length cA] 27)) (.agg #[.int .i64 K.major, .int .i64 K.minor, .slice qe lk je, .slice a l.length cap]) K l) := (HR6_r.out.below ba).more ba.size
  have HR7_A : Hid (IsReg (w4.alloc (.cells #[.int .i64 K.major, .int .i64 K.minor, .slice qA lk jA, .slice aA lA.length cA] 27)).heap.size (w4.alloc (.cells #[.int .i64 K.major, .int .i64 K.minor, .slice qA lk jA, .slice aA lA.length cA] 27)) (.agg #[.int .i64 K.major, .int .i64 K.minor, .slice qA lk jA, .slice aA lA.length cA]) K lA) := (HRNA.out.below ba).more ba.size
  have HM7_m : Hid (IsMod (w4.alloc (.cells #[.int .i64 K.major, .int .i64 K.minor, .slice qA lk jA, .slice aA lA.length cA] 27)).heap.size (w4.alloc (.cells #[.int .i64 K.major, .int .i64 K.minor, .slice qA lk jA, .slice aA lA.length cA] 27)) (.agg #[.string M.name, .int .i64 M.major, .int .i64 M.minor, .string M.text, .slice pe le ke, .slice pi li ki, .slice pp lp kp]) M) := (HM6_m.out.below ba).more ba.size
  clear HB6 HC6_g1 HC6_g2 HR6_r HRNA HM6_m
  clear ba
  have HC8_gA : Hid (CellsAt (w4.alloc (.cells #[.int .i64 K.major, .int .i64 K.minor, .slice qA lk jA, .slice aA lA.length cA] 27)) w4.heap.size 27 #[.int .i64 K.major, .int .i64 K.minor, .slice qA lk jA, .slice aA lA.length cA]) := CellsAt.new _ _ _
  go_upto_region 4 with fail
  generalize (w4.alloc (.cells #[.int .i64 K.major, .int .i64 K.minor, .slice qA lk jA, .slice aA lA.length cA] 27)) = w5 at *
  generalize w4.heap.size = gA at *
  have rgA0 := CellsAt.cell HC8_gA.out 0
  have rgA1 := CellsAt.cell HC8_gA.out 1
  have rgA2 := CellsAt.cell HC8_gA.out 2
  have rgA3 := CellsAt.cell HC8_gA.out 3
  have rgAl := CellsAt.lt HC8_gA.out
  simp at rgA0 rgA1 rgA2 rgA3
  have rg20 := CellsAt.cell HC7_g2.out 0
  have rg21 := CellsAt.cell HC7_g2.out 1
  have rg22 := CellsAt.cell HC7_g2.out 2
  have rg23 := CellsAt.cell HC7_g2.out 3
  have rg24 := CellsAt.cell HC7_g2.out 4
  have rg25 := CellsAt.cell HC7_g2.out 5
  have rg26 := CellsAt.cell HC7_g2.out 6
  have rg2l := CellsAt.lt HC7_g2.out
  simp at rg20 rg21 rg22 rg23 rg24 rg25 rg26
  go_wp2_with fail
  clear rgA0 rgA1 rgA2 rgA3 rgAl
  clear rg20 rg21 rg22 rg23 rg24 rg25 rg26 rg2l
  refine (HI2.out lA _ _ HPA.out HFTA.out HR7_A.out HM7_m.out).mono ?_
  rintro e w6 ⟨⟨vE, rfl, hiE⟩, bE⟩
  have HB9 : Hid (Below w.heap.size w w6) := HB7.out.trans (bE.mono HB7.out.size)
  have HC9_g1 : Hid (CellsAt w6 w.heap.size 27 #[.int .i64 K.major, .int .i64 K.minor, .slice qe lk je, .slice a l.length cap]) := HC7_g1.out.below bE HC7_g1.out.lt
  have HC9_g2 : Hid (CellsAt w6 (w.heap.size + 1) 31 #[.string M.name, .int .i64 M.major, .int .i64 M.minor, .string M.text, .slice pe le ke, .slice pi li ki, .slice pp lp kp]) := HC7_g2.out.below bE HC7_g2.out.lt
  have HC9_gA : Hid (CellsAt w6 gA 27 #[.int .i64 K.major, .int .i64 K.minor, .slice qA lk jA, .slice aA lA.length cA]) := HC8_gA.out.below bE HC8_gA.out.lt
  have HR9_r : Hid (IsReg w6.heap.size w6 (.agg #[.int .i64 K.major, .int .i64 K.minor, .slice qe lk je, .slice a l.length cap]) K l) := (HR7_r.out.below bE).more bE.size
  have HR9_A : Hid (IsReg w6.heap.size w6 (.agg #[.int .i64 K.major, .int .i64 K.minor, .slice qA lk jA, .slice aA lA.length cA]) K lA) := (HR7_A.out.below bE).more bE.size
  have HM9_m : Hid (IsMod w6.heap.size w6 (.agg #[.string M.name, .int .i64 M.major, .int .i64 M.minor, .string M.text, .slice pe le ke, .slice pi li ki, .slice pp lp kp]) M) := (HM7_m.out.below bE).more bE.size
  clear HB7 HC7_g1 HC7_g2 HC8_gA HR7_r HR7_A HM7_m
  obtain ⟨qE, jE, aE, cE, rfl⟩ := hiE.shape0
  dsimp only [emptyK, List.length_nil]
  clear bE hiE
  clear HI2
  have ba : Below w6.heap.size w6 (w6.alloc (.cells #[.int .i64 0, .int .i64 0, .slice qE 0 jE, .slice aE 0 cE] 27)) := (Below.refl _ _).alloc (Nat.le_refl _) _
  have ol_g1_gE : w.heap.size < w6.heap.size := CellsAt.lt HC9_g1.out
  have ol_g2_gE : (w.heap.size + 1) < w6.heap.size := CellsAt.lt HC9_g2.out
  have ol_gA_gE : gA < w6.heap.size := CellsAt.lt HC9_gA.out
  have olw_gE : w.heap.size ≤ w6.heap.size := HB9.out.size
  have HB10 : Hid (Below w.heap.size w (w6.alloc (.cells #[.int .i64 0, .int .i64 0, .slice qE 0 jE, .slice aE 0 cE] 27))) := HB9.out.trans (ba.mono HB9.out.size)
  have HC10_g1 : Hid (CellsAt (w6.alloc (.cells #[.int .i64 0, .int .i64 0, .slice qE 0 jE, .slice aE 0 cE] 27)) w.heap.size 27 #[.int .i64 K.major, .int .i64 K.minor, .slice qe lk je, .slice a l.length cap]) := HC9_g1.out.below ba HC9_g1.out.lt
  have HC10_g2 : Hid (CellsAt (w6.alloc (.cells #[.int .i64 0, .int .i64 0, .slice qE 0 jE, .slice aE 0 cE] 27)) (w.heap.size + 1) 31 #[.string M.name, .int .i64 M.major, .int .i64 M.minor, .string M.text, .slice pe le ke, .slice pi li ki, .slice pp lp kp]) := HC9_g2.out.below ba HC9_g2.out.lt
  have HC10_gA : Hid (CellsAt (w6.alloc (.cells #[.int .i64 0, .int .i64 0, .slice qE 0 jE, .slice aE 0 cE] 27)) gA 27 #[.int .i64 K.major, .int .i64 K.minor, .slice qA lk jA, .slice aA lA.length cA]) := HC9_gA.out.below ba HC9_gA.out.lt
  have HR10_r : Hid (IsReg (w6.alloc (.cells #[.int .i64 0, .int .i64 0, .slice qE 0 jE, .slice aE 0 cE] 27)).heap.size (w6.alloc (.cells #[.int .i64 0, .int .i64 0, .slice qE 0 jE, .slice aE 0 cE] 27)) (.agg #[.int .i64 K.major, .int .i64 K.minor, .slice qe lk je, .slice a l.length cap]) K l) := (HR9_r.out.below ba).more ba.size
  have HR10_A : Hid (IsReg (w6.alloc (.cells #[.int .i64 0, .int .i64 0, .slice qE 0 jE, .slice aE 0 cE] 27)).heap.size (w6.alloc (.cells #[.int .i64 0, .int .i64 0, .slice qE 0 jE, .slice aE 0 cE] 27)) (.agg #[.int .i64 K.major, .int .i64 K.minor, .slice qA lk jA, .slice aA lA.length cA]) K lA) := (HR9_A.out.below ba).more ba.size
  have HM10_m : Hid (IsMod (w6.alloc (.cells #[.int .i64 0, .int .i64 0, .slice qE 0 jE, .slice aE 0 cE] 27)).heap.size (w6.alloc (.cells #[.int .i64 0, .int .i64 0, .slice qE 0 jE, .slice aE 0 cE] 27)) (.agg #[.string M.name, .int .i64 M.major, .int .i64 M.minor, .string M.text, .slice pe le ke, .slice pi li ki, .slice pp lp kp]) M) := (HM9_m.out.below ba).more ba.size
  clear HB9 HC9_g1 HC9_g2 HC9_gA HR9_r HR9_A HM9_m
  clear ba
  have HC11_gE : Hid (CellsAt (w6.alloc (.cells #[.int .i64 0, .int .i64 0, .slice qE 0 jE, .slice aE 0 cE] 27)) w6.heap.size 27 #[.int .i64 0, .int .i64 0, .slice qE 0 jE, .slice aE 0 cE]) := CellsAt.new _ _ _
  go_upto_region 7 with fail
  generalize (w6.alloc (.cells #[.int .i64 0, .int .i64 0, .slice qE 0 jE, .slice aE 0 cE] 27)) = w7 at *
  generalize w6.heap.size = gE at *
  have rgA0 := CellsAt.cell HC10_gA.out 0
  have rgA1 := CellsAt.cell HC10_gA.out 1
  have rgA2 := CellsAt.cell HC10_gA.out 2
  have rgA3 := CellsAt.cell HC10_gA.out 3
  have rgAl := CellsAt.lt HC10_gA.out
  simp at rgA0 rgA1 rgA2 rgA3
  have rg20 := CellsAt.cell HC10_g2.out 0
  have rg21 := CellsAt.cell HC10_g2.out 1
  have rg22 := CellsAt.cell HC10_g2.out 2
  have rg23 := CellsAt.cell HC10_g2.out 3
  have rg24 := CellsAt.cell HC10_g2.out 4
  have rg25 := CellsAt.cell HC10_g2.out 5
  have rg26 := CellsAt.cell HC10_g2.out 6
  have rg2l := CellsAt.lt HC10_g2.out
  simp at rg20 rg21 rg22 rg23 rg24 rg25 rg26
  go_wp2_with fail
  clear rgA0 rgA1 rgA2 rgA3 rgAl
  clear rg20 rg21 rg22 rg23 rg24 rg25 rg26 rg2l
  refine (HR2.out lA _ _ HPA.out HFTA.out HR10_A.out).mono ?_
  rintro e w8 ⟨⟨vB, lB, rfl, hpB, hiB⟩, bB⟩
  have HB12 : Hid (Below w.heap.size w w8) := HB10.out.trans (bB.mono HB10.out.size)
  have HC12_g1 : Hid (CellsAt w8 w.heap.size 27 #[.int .i64 K.major, .int .i64 K.minor, .slice qe lk je, .slice a l.length cap]) := HC10_g1.out.below bB HC10_g1.out.lt
  have HC12_g2 : Hid (CellsAt w8 (w.heap.size + 1) 31 #[.string M.name, .int .i64 M.major, .int .i64 M.minor, .string M.text, .slice pe le ke, .slice pi li ki, .slice pp lp kp]) := HC10_g2.out.below bB HC10_g2.out.lt
  have HC12_gA : Hid (CellsAt w8 gA 27 #[.int .i64 K.major, .int .i64 K.minor, .slice qA lk jA, .slice aA lA.length cA]) := HC10_gA.out.below bB HC10_gA.out.lt
  have HC12_gE : Hid (CellsAt w8 gE 27 #[.int .i64 0, .int .i64 0, .slice qE 0 jE, .slice aE 0 cE]) := HC11_gE.out.below bB HC11_gE.out.lt
  have HR12_r : Hid (IsReg w8.heap.size w8 (.agg #[.int .i64 K.major, .int .i64 K.minor, .slice qe lk je, .slice a l.length cap]) K l) := (HR10_r.out.below bB).more bB.size
  have HR12_A : Hid (IsReg w8.heap.size w8 (.agg #[.int .i64 K.major, .int .i64 K.minor, .slice qA lk jA, .slice aA lA.length cA]) K lA) := (HR10_A.out.below bB).more bB.size
  have HM12_m : Hid (IsMod w8.heap.size w8 (.agg #[.string M.name, .int .i64 M.major, .int .i64 M.minor, .string M.text, .slice pe le ke, .slice pi li ki, .slice pp lp kp]) M) := (HM10_m.out.below bB).more bB.size
  clear HB10 HC10_g1 HC10_g2 HC10_gA HC11_gE HR10_r HR10_A HM10_m
  obtain ⟨qB, jB, aB, cB, rfl⟩ := hiB.shape0
  rw [HLK.out] at hiB ⊢
  have HPB : Hid (lB.map PV.plc = l.map PV.plc) := hpB
  have HRNB : Hid (IsReg w8.heap.size w8 (.agg #[.int .i64 K.major, .int .i64 K.minor, .slice qB lk jB, .slice aB lB.length cB]) K lB) := hiB
  clear bB hiB hpB
  clear HR2
  have ba : Below w8.heap.size w8 (w8.alloc (.cells #[.int .i64 K.major, .int .i64 K.minor, .slice qB lk jB, .slice aB lB.length cB] 27)) := (Below.refl _ _).alloc (Nat.le_refl _) _
  have ol_g1_gB : w.heap.size < w8.heap.size := CellsAt.lt HC12_g1.out
  have ol_g2_gB : (w.heap.size + 1) < w8.heap.size := CellsAt.lt HC12_g2.out
  have ol_gA_gB : gA < w8.heap.size := CellsAt.lt HC12_gA.out
  have ol_gE_gB : gE < w8.heap.size := CellsAt.lt HC12_gE.out
  have olw_gB : w.heap.size ≤ w8.heap.size := HB12.out.size
  have HB13 : Hid (Below w.heap.size w (w8.alloc (.cells #[.int .i64 K.major, .int .i64 K.minor, .slice qB lk jB, .slice aB lB.length cB] 27))) := HB12.out.trans (ba.mono HB12.out.size)
  have HC13_g1 : Hid (CellsAt (w8.alloc (.cells #[.int .i64 K.major, .int .i64 K.minor, .slice qB lk jB, .slice aB lB.length cB] 27)) w.heap.size 27 #[.int .i64 K.major, .int .i64 K.minor, .slice qe lk je, .slice a l.length cap]) := HC12_g1.out.below ba HC12_g1.out.lt
  have HC13_g2 : Hid (CellsAt (w8.alloc (.cells #[.int .i64 K.major, .int .i64 K.minor, .slice qB lk jB, .slice aB lB.length cB] 27)) (w.heap.size + 1) 31 #[.string M.name, .int .i64 M.major, .int .i64 M.minor, .string M.text, .slice pe le ke, .slice pi li ki, .slice pp lp kp]) := HC12_g2.out.below ba HC12_g2.out.lt
  have HC13_gA : Hid (CellsAt (w8.alloc (.cells #[.int .i64 K.major, .int .i64 K.minor, .slice qB lk jB, .slice aB lB.length cB] 27)) gA 27 #[.int .i64 K.major, .int .i64 K.minor, .slice qA lk jA, .slice aA lA.length cA]) := HC12_gA.out.below ba HC12_gA.out.lt
  have HC13_gE : Hid (CellsAt (w8.alloc (.cells #[.int .i64 K.major, .int .i64 K.minor, .slice qB lk jB, .slice aB lB.length cB] 27)) gE 27 #[.int .i64 0, .int .i64 0, .slice qE 0 jE, .slice aE 0 cE]) := HC12_gE.out.below ba HC12_gE.out.lt
  have HR13_r : Hid (IsReg (w8.alloc (.cells #[.int .i64 K.major, .int .i64 K.minor, .slice qB lk jB, .slice aB lB.length cB] 27)).heap.size (w8.alloc (.cells #[.int .i64 K.major, .int .i64 K.minor, .slice qB lk jB, .slice aB lB.length cB] 27)) (.agg #[.int .i64 K.major, .int .i64 K.minor, .slice qe lk je, .slice a l.length cap]) K l) := (HR12_r.out.below ba).more ba.size
  have HR13_A : Hid (IsReg (w8.alloc (.cells #[.int .i64 K.major, .int .i64 K.minor, .slice qB lk jB, .slice aB lB.length cB] 27)).heap.size (w8.alloc (.cells #[.int .i64 K.major, .int .i64 K.minor, .slice qB lk jB, .slice aB lB.length cB] 27)) (.agg #[.int .i64 K.major, .int .i64 K.minor, .slice qA lk jA, .slice aA lA.length cA]) K lA) := (HR12_A.out.below ba).more ba.size
  have HR13_B : Hid (IsReg (w8.alloc (.cells #[.int .i64 K.major, .int .i64 K.minor, .slice qB lk jB, .slice aB lB.length cB] 27)).heap.size (w8.alloc (.cells #[.int .i64 K.major, .int .i64 K.minor, .slice qB lk jB, .slice aB lB.length cB] 27)) (.agg #[.int .i64 K.major, .int .i64 K.minor, .slice qB lk jB, .slice aB lB.length cB]) K lB) := (HRNB.out.below ba).more ba.size
  have HM13_m : Hid (IsMod (w8.alloc (.cells #[.int .i64 K.major, .int .i64 K.minor, .slice qB lk jB, .slice aB lB.length cB] 27)).heap.size (w8.alloc (.cells #[.int .i64 K.major, .int .i64 K.minor, .slice qB lk jB, .slice aB lB.length cB] 27)) (.agg #[.string M.name, .int .i64 M.major, .int .i64 M.minor, .string M.text, .slice pe le ke, .slice pi li ki, .slice pp lp kp]) M) := (HM12_m.out.below ba).more ba.size
  clear HB12 HC12_g1 HC12_g2 HC12_gA HC12_gE HR12_r HR12_A HRNB HM12_m
  clear ba
  have HC14_gB : Hid (CellsAt (w8.alloc (.cells #[.int .i64 K.major, .int .i64 K.minor, .slice qB lk jB, .slice aB lB.length cB] 27)) w8.heap.size 27 #[.int .i64 K.major, .int .i64 K.minor, .slice qB lk jB, .slice aB lB.length cB]) := CellsAt.new _ _ _
  go_upto_region 8 with fail
  generalize (w8.alloc (.cells #[.int .i64 K.major, .int .i64 K.minor, .slice qB lk jB, .slice aB lB.length cB] 27)) = w9 at *
  generalize w8.heap.size = gB at *
  have rgA0 := CellsAt.cell HC13_gA.out 0
  have rgA1 := CellsAt.cell HC13_gA.out 1
  have rgA2 := CellsAt.cell HC13_gA.out 2
  have rgA3 := CellsAt.cell HC13_gA.out 3
  have rgAl := CellsAt.lt HC13_gA.out
  simp at rgA0 rgA1 rgA2 rgA3
  have rg20 := CellsAt.cell HC13_g2.out 0
  have rg21 := CellsAt.cell HC13_g2.out 1
  have rg22 := CellsAt.cell HC13_g2.out 2
  have rg23 := CellsAt.cell HC13_g2.out 3
  have rg24 := CellsAt.cell HC13_g2.out 4
  have rg25 := CellsAt.cell HC13_g2.out 5
  have rg26 := CellsAt.cell HC13_g2.out 6
  have rg2l := CellsAt.lt HC13_g2.out
  simp at rg20 rg21 rg22 rg23 rg24 rg25 rg26
  go_wp2_with fail
  clear rgA0 rgA1 rgA2 rgA3 rgAl
  clear rg20 rg21 rg22 rg23 rg24 rg25 rg26 rg2l
  refine (HU2.out lA _ _ HPA.out HFTA.out HR13_A.out HM13_m.out).mono ?_
  rintro e w10 ⟨⟨vC, lC, rfl, hpC, hiC⟩, bC⟩
  have HB15 : Hid (Below w.heap.size w w10) := HB13.out.trans (bC.mono HB13.out.size)
  have HC15_g1 : Hid (CellsAt w10 w.heap.size 27 #[.int .i64 K.major, .int .i64 K.minor, .slice qe lk je, .slice a l.length cap]) := HC13_g1.out.below bC HC13_g1.out.lt
  have HC15_g2 : Hid (CellsAt w10 (w.heap.size + 1) 31 #[.string M.name, .int .i64 M.major, .int .i64 M.minor, .string M.text, .slice pe le ke, .slice pi li ki, .slice pp lp kp]) := HC13_g2.out.below bC HC13_g2.out.lt
  have HC15_gA : Hid (CellsAt w10 gA 27 #[.int .i64 K.major, .int .i64 K.minor, .slice qA lk jA, .slice aA lA.length cA]) := HC13_gA.out.below bC HC13_gA.out.lt
  have HC15_gE : Hid (CellsAt w10 gE 27 #[.int .i64 0, .int .i64 0, .slice qE 0 jE, .slice aE 0 cE]) := HC13_gE.out.below bC HC13_gE.out.lt
  have HC15_gB : Hid (CellsAt w10 gB 27 #[.int .i64 K.major, .int .i64 K.minor, .slice qB lk jB, .slice aB lB.length cB]) := HC14_gB.out.below bC HC14_gB.out.lt
  have HR15_r : Hid (IsReg w10.heap.size w10 (.agg #[.int .i64 K.major, .int .i64 K.minor, .slice qe lk je, .slice a l.length cap]) K l) := (HR13_r.out.below bC).more bC.size
  have HR15_A : Hid (IsReg w10.heap.size w10 (.agg #[.int .i64 K.major, .int .i64 K.minor, .slice qA lk jA, .slice aA lA.length cA]) K lA) := (HR13_A.out.below bC).more bC.size
  have HR15_B : Hid (IsReg w10.heap.size w10 (.agg #[.int .i64 K.major, .int .i64 K.minor, .slice qB lk jB, .slice aB lB.length cB]) K lB) := (HR13_B.out.below bC).more bC.size
  have HM15_m : Hid (IsMod w10.heap.size w10 (.agg #[.string M.name, .int .i64 M.major, .int .i64 M.minor, .string M.text, .slice pe le ke, .slice pi li ki, .slice pp lp kp]) M) := (HM13_m.out.below bC).more bC.size
  clear HB13 HC13_g1 HC13_g2 HC13_gA HC13_gE HC14_gB HR13_r HR13_A HR13_B HM13_m
  obtain ⟨qC, jC, aC, cC, rfl⟩ := hiC.shape0
  rw [HLK.out] at hiC ⊢
  have HPC : Hid (lC.map PV.plc = L') := hpC
  have HRNC : Hid (IsReg w10.heap.size w10 (.agg #[.int .i64 K.major, .int .i64 K.minor, .slice qC lk jC, .slice aC lC.length cC]) K lC) := hiC
  clear bC hiC hpC
  clear HU2
  have ba : Below w10.heap.size w10 (w10.alloc (.cells #[.int .i64 K.major, .int .i64 K.minor, .slice qC lk jC, .slice aC lC.length cC] 27)) := (Below.refl _ _).alloc (Nat.le_refl _) _
  have ol_g1_gC : w.heap.size < w10.heap.size := CellsAt.lt HC15_g1.out
  have ol_g2_gC : (w.heap.size + 1) < w10.heap.size := CellsAt.lt HC15_g2.out
  have ol_gA_gC : gA < w10.heap.size := CellsAt.lt HC15_gA.out
  have ol_gE_gC : gE < w10.heap.size := CellsAt.lt HC15_gE.out
  have ol_gB_gC : gB < w10.heap.size := CellsAt.lt HC15_gB.out
  have olw_gC : w.heap.size ≤ w10.heap.size := HB15.out.size
  have HB16 : Hid (Below w.heap.size w (w10.alloc (.cells #[.int .i64 K.major, .int .i64 K.minor, .slice qC lk jC, .slice aC lC.length cC] 27))) := HB15.out.trans (ba.mono HB15.out.size)
  have HC16_g1 : Hid (CellsAt (w10.alloc (.cells #[.int .i64 K.major, .int .i64 K.minor, .slice qC lk jC, .slice aC lC.length cC] 27)) w.heap.size 27 #[.int .i64 K.major, .int .i64 K.minor, .slice qe lk je, .slice a l.length cap]) := HC15_g1.out.below ba HC15_g1.out.lt
  have HC16_g2 : Hid (CellsAt (w10.alloc (.cells #[.int .i64 K.major, .int .i64 K.minor, .slice qC lk jC, .slice aC lC.length cC] 27)) (w.heap.size + 1) 31 #[.string M.name, .int .i64 M.major, .int .i64 M.minor, .string M.text, .slice pe le ke, .slice pi li ki, .slice pp lp kp]) := HC15_g2.out.below ba HC15_g2.out.lt
  have HC16_gA : Hid (CellsAt (w10.alloc (.cells #[.int .i64 K.major, .int .i64 K.minor, .slice qC lk jC, .slice aC lC.length cC] 27)) gA 27 #[.int .i64 K.major, .int .i64 K.minor, .slice qA lk jA, .slice aA lA.length cA]) := HC15_gA.out.below ba HC15_gA.out.lt
  have HC16_gE : Hid (CellsAt (w10.alloc (.cells #[.int .i64 K.major, .int .i64 K.minor, .slice qC lk jC, .slice aC lC.length cC] 27)) gE 27 #[.int .i64 0, .int .i64 0, .slice qE 0 jE, .slice aE 0 cE]) := HC15_gE.out.below ba HC15_gE.out.lt
  have HC16_gB : Hid (CellsAt (w10.alloc (.cells #[.int .i64 K.major, .int .i64 K.minor, .slice qC lk jC, .slice aC lC.length cC] 27)) gB 27 #[.int .i64 K.major, .int .i64 K.minor, .slice qB lk jB, .slice aB lB.length cB]) := HC15_gB.out.below ba HC15_gB.out.lt
  have HR16_r : Hid (IsReg (w10.alloc (.cells #[.int .i64 K.major, .int .i64 K.minor, .slice qC lk jC, .slice aC lC.length cC] 27)).heap.size (w10.alloc (.cells #[.int .i64 K.major, .int .i64 K.minor, .slice qC lk jC, .slice aC lC.length cC] 27)) (.agg #[.int .i64 K.major, .int .i64 K.minor, .slice qe lk je, .slice a l.length cap]) K l) := (HR15_r.out.below ba).more ba.size
  have HR16_A : Hid (IsReg (w10.alloc (.cells #[.int .i64 K.major, .int .i64 K.minor, .slice qC lk jC, .slice aC lC.length cC] 27)).heap.size (w10.alloc (.cells #[.int .i64 K.major, .int .i64 K.minor, .slice qC lk jC, .slice aC lC.length cC] 27)) (.agg #[.int .i64 K.major, .int .i64 K.minor, .slice qA lk jA, .slice aA lA.length cA]) K lA) := (HR15_A.out.below ba).more ba.size
  have HR16_B : Hid (IsReg (w10.alloc (.cells #[.int .i64 K.major, .int .i64 K.minor, .slice qC lk jC, .slice aC lC.length cC] 27)).heap.size (w10.alloc (.cells #[.int .i64 K.major, .int .i64 K.minor, .slice qC lk jC, .slice aC lC.length cC] 27)) (.agg #[.int .i64 K.major, .int .i64 K.minor, .slice qB lk jB, .slice aB lB.length cB]) K lB) := (HR15_B.out.below ba).more ba.size
  have HR16_C : Hid (IsReg (w10.alloc (.cells #[.int .i64 K.major, .int .i64 K.minor, .slice qC lk jC, .slice aC lC.length cC] 27)).heap.size (w10.alloc (.cells #[.int .i64 K.major, .int .i64 K.minor, .slice qC lk jC, .slice aC lC.length cC] 27)) (.agg #[.int .i64 K.major, .int .i64 K.minor, .slice qC lk jC, .slice aC lC.length cC]) K lC) := (HRNC.out.below ba).more ba.size
  have HM16_m : Hid (IsMod (w10.alloc (.cells #[.int .i64 K.major, .int .i64 K.minor, .slice qC lk jC, .slice aC lC.length cC] 27)).heap.size (w10.alloc (.cells #[.int .i64 K.major, .int .i64 K.minor, .slice qC lk jC, .slice aC lC.length cC] 27)) (.agg #[.string M.name, .int .i64 M.major, .int .i64 M.minor, .string M.text, .slice pe le ke, .slice pi li ki, .slice pp lp kp]) M) := (HM15_m.out.below ba).more ba.size
  clear HB15 HC15_g1 HC15_g2 HC15_gA HC15_gE HC15_gB HR15_r HR15_A HR15_B HRNC HM15_m
  clear ba
  have HC17_gC : Hid (CellsAt (w10.alloc (.cells #[.int .i64 K.major, .int .i64 K.minor, .slice qC lk jC, .slice aC lC.length cC] 27)) w10.heap.size 27 #[.int .i64 K.major, .int .i64 K.minor, .slice qC lk jC, .slice aC lC.length cC]) := CellsAt.new _ _ _
  go_upto_region 9 with fail
  generalize (w10.alloc (.cells #[.int .i64 K.major, .int .i64 K.minor, .slice qC lk jC, .slice aC lC.length cC] 27)) = w11 at *
  generalize w10.heap.size = gC at *
  have rgB0 := CellsAt.cell HC16_gB.out 0
  have rgB1 := CellsAt.cell HC16_gB.out 1
  have rgB2 := CellsAt.cell HC16_gB.out 2
  have rgB3 := CellsAt.cell HC16_gB.out 3
  have rgBl := CellsAt.lt HC16_gB.out
  simp at rgB0 rgB1 rgB2 rgB3
  have rg10 := CellsAt.cell HC16_g1.out 0
  have rg11 := CellsAt.cell HC16_g1.out 1
  have rg12 := CellsAt.cell HC16_g1.out 2
  have rg13 := CellsAt.cell HC16_g1.out 3
  have rg1l := CellsAt.lt HC16_g1.out
  simp at rg10 rg11 rg12 rg13
  go_wp2_with fail
  clear rgB0 rgB1 rgB2 rgB3 rgBl
  clear rg10 rg11 rg12 rg13 rg1l
  refine (sameReg_yes K lB l _ _ _ HR16_B.out HR16_r.out HPB.out).mono ?_
  rintro e w12 ⟨rfl, b12⟩
  have HB18 : Hid (Below w.heap.size w w12) := HB16.out.trans (b12.mono HB16.out.size)
  have HC18_g1 : Hid (CellsAt w12 w.heap.size 27 #[.int .i64 K.major, .int .i64 K.minor, .slice qe lk je, .slice a l.length cap]) := HC16_g1.out.below b12 HC16_g1.out.lt
  have HC18_g2 : Hid (CellsAt w12 (w.heap.size + 1) 31 #[.string M.name, .int .i64 M.major, .int .i64 M.minor, .string M.text, .slice pe le ke, .slice pi li ki, .slice pp lp kp]) := HC16_g2.out.below b12 HC16_g2.out.lt
  have HC18_gA : Hid (CellsAt w12 gA 27 #[.int .i64 K.major, .int .i64 K.minor, .slice qA lk jA, .slice aA lA.length cA]) := HC16_gA.out.below b12 HC16_gA.out.lt
  have HC18_gE : Hid (CellsAt w12 gE 27 #[.int .i64 0, .int .i64 0, .slice qE 0 jE, .slice aE 0 cE]) := HC16_gE.out.below b12 HC16_gE.out.lt
  have HC18_gB : Hid (CellsAt w12 gB 27 #[.int .i64 K.major, .int .i64 K.minor, .slice qB lk jB, .slice aB lB.length cB]) := HC16_gB.out.below b12 HC16_gB.out.lt
  have HC18_gC : Hid (CellsAt w12 gC 27 #[.int .i64 K.major, .int .i64 K.minor, .slice qC lk jC, .slice aC lC.length cC]) := HC17_gC.out.below b12 HC17_gC.out.lt
  have HR18_r : Hid (IsReg w12.heap.size w12 (.agg #[.int .i64 K.major, .int .i64 K.minor, .slice qe lk je, .slice a l.length cap]) K l) := (HR16_r.out.below b12).more b12.size
  have HR18_A : Hid (IsReg w12.heap.size w12 (.agg #[.int .i64 K.major, .int .i64 K.minor, .slice qA lk jA, .slice aA lA.length cA]) K lA) := (HR16_A.out.below b12).more b12.size
  have HR18_B : Hid (IsReg w12.heap.size w12 (.agg #[.int .i64 K.major, .int .i64 K.minor, .slice qB lk jB, .slice aB lB.length cB]) K lB) := (HR16_B.out.below b12).more b12.size
  have HR18_C : Hid (IsReg w12.heap.size w12 (.agg #[.int .i64 K.major, .int .i64 K.minor, .slice qC lk jC, .slice aC lC.length cC]) K lC) := (HR16_C.out.below b12).more b12.size
  have HM18_m : Hid (IsMod w12.heap.size w12 (.agg #[.string M.name, .int .i64 M.major, .int .i64 M.minor, .string M.text, .slice pe le ke, .slice pi li ki, .slice pp lp kp]) M) := (HM16_m.out.below b12).more b12.size
  clear HB16 HC16_g1 HC16_g2 HC16_gA HC16_gE HC16_gB HC17_gC HR16_r HR16_A HR16_B HR16_C HM16_m
  clear b12
  have rgC0 := CellsAt.cell HC18_gC.out 0
  have rgC1 := CellsAt.cell HC18_gC.out 1
  have rgC2 := CellsAt.cell HC18_gC.out 2
  have rgC3 := CellsAt.cell HC18_gC.out 3
  have rgCl := CellsAt.lt HC18_gC.out
  simp at rgC0 rgC1 rgC2 rgC3
  have rgA0 := CellsAt.cell HC18_gA.out 0
  have rgA1 := CellsAt.cell HC18_gA.out 1
  have rgA2 := CellsAt.cell HC18_gA.out 2
  have rgA3 := CellsAt.cell HC18_gA.out 3
  have rgAl := CellsAt.lt HC18_gA.out
  simp at rgA0 rgA1 rgA2 rgA3
  go_wp2_with fail
  clear rgC0 rgC1 rgC2 rgC3 rgCl
  clear rgA0 rgA1 rgA2 rgA3 rgAl
  refine (sameReg_yes K lC lA _ _ _ HR18_C.out HR18_A.out (HPC.out.trans HPA.out.symm)).mono ?_
  rintro e w13 ⟨rfl, b13⟩
  have HB19 : Hid (Below w.heap.size w w13) := HB18.out.trans (b13.mono HB18.out.size)
  have HC19_g1 : Hid (CellsAt w13 w.heap.size 27 #[.int .i64 K.major, .int .i64 K.minor, .slice qe lk je, .slice a l.length cap]) := HC18_g1.out.below b13 HC18_g1.out.lt
  have HC19_g2 : Hid (CellsAt w13 (w.heap.size + 1) 31 #[.string M.name, .int .i64 M.major, .int .i64 M.minor, .string M.text, .slice pe le ke, .slice pi li ki, .slice pp lp kp]) := HC18_g2.out.below b13 HC18_g2.out.lt
  have HC19_gA : Hid (CellsAt w13 gA 27 #[.int .i64 K.major, .int .i64 K.minor, .slice qA lk jA, .slice aA lA.length cA]) := HC18_gA.out.below b13 HC18_gA.out.lt
  have HC19_gE : Hid (CellsAt w13 gE 27 #[.int .i64 0, .int .i64 0, .slice qE 0 jE, .slice aE 0 cE]) := HC18_gE.out.below b13 HC18_gE.out.lt
  have HC19_gB : Hid (CellsAt w13 gB 27 #[.int .i64 K.major, .int .i64 K.minor, .slice qB lk jB, .slice aB lB.length cB]) := HC18_gB.out.below b13 HC18_gB.out.lt
  have HC19_gC : Hid (CellsAt w13 gC 27 #[.int .i64 K.major, .int .i64 K.minor, .slice qC lk jC, .slice aC lC.length cC]) := HC18_gC.out.below b13 HC18_gC.out.lt
  have HR19_r : Hid (IsReg w13.heap.size w13 (.agg #[.int .i64 K.major, .int .i64 K.minor, .slice qe lk je, .slice a l.length cap]) K l) := (HR18_r.out.below b13).more b13.size
  have HR19_A : Hid (IsReg w13.heap.size w13 (.agg #[.int .i64 K.major, .int .i64 K.minor, .slice qA lk jA, .slice aA lA.length cA]) K lA) := (HR18_A.out.below b13).more b13.size
  have HR19_B : Hid (IsReg w13.heap.size w13 (.agg #[.int .i64 K.major, .int .i64 K.minor, .slice qB lk jB, .slice aB lB.length cB]) K lB) := (HR18_B.out.below b13).more b13.size
  have HR19_C : Hid (IsReg w13.heap.size w13 (.agg #[.int .i64 K.major, .int .i64 K.minor, .slice qC lk jC, .slice aC lC.length cC]) K lC) := (HR18_C.out.below b13).more b13.size
  have HM19_m : Hid (IsMod w13.heap.size w13 (.agg #[.string M.name, .int .i64 M.major, .int .i64 M.minor, .string M.text, .slice pe le ke, .slice pi li ki, .slice pp lp kp]) M) := (HM18_m.out.below b13).more b13.size
  clear HB18 HC18_g1 HC18_g2 HC18_gA HC18_gE HC18_gB HC18_gC HR18_r HR18_A HR18_B HR18_C HM18_m
  clear b13
  go_wp2
  go_ret
  exact ⟨rfl, HB19.out⟩

theorem walk (K : Ker) (l : List PV) (v : Value) (M : Mod) (vm : Value) (w : World) (h : IsReg w.heap.size w v K l) (hf : K.fits) (hfit : ∀ x ∈ l, x.mod.fits) (hm : IsMod w.heap.size w vm M) (hmf : M.fits) :
    Calls Tryz.prog 5 #[v, vm] w fun e w' => e = .returned (.bool true) ∧ Below w.heap.size w w' := by
  by_cases h0 : (planRes K (l.map PV.plc) (instDo (l.map PV.plc) M)).2 = 0
  · exact walk0 K l v M vm w h hf hfit hm hmf h0
  · exact walkE K l v M vm w h hf hfit hm hmf h0

end Go.Proofs.YthmohjgdcjafkaeGreat.planBack
