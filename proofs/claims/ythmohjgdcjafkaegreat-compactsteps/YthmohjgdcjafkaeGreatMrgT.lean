/- Texts that are laid together. -/
import Derived.Test.YthmohjgdcjafkaeGreatMrgS
import Derived.Test.YthmohjgdcjafkaeGreatMrgF
import Derived.Test.YthmohjgdcjafkaeGreatMrgE
import Derived.Lib.QuietBelow
import Derived.Test.YthmohjgdcjafkaeGreatProg
import Derived.Deep.AppendLies
import Derived.Deep.Upon

/- What a step lowers, and what is free behind a pack: as data. -/
namespace Go.Proofs.YthmohjgdcjafkaeGreat
open Go.RowKit Go.PlainAid Go.Lib

theorem runs_packed : ∀ (L : List Plc) (e : Int), stepFrom e L = none → runsFrom e L = [] ∨ ∃ a, runsFrom e L = [(a, 16 - a)]
  | [], e, _ => by
    have hr : runsFrom e [] = if e = 16 then [] else [(e, 16 - e)] := rfl
    rw [hr]
    split
    · exact .inl rfl
    · exact .inr ⟨e, rfl⟩
  | p :: r, e, h => by
    have hst : stepFrom e (p :: r) = if p.first = e then (stepFrom (e + szM p.mod) r).map (p :: ·) else some (⟨p.mod, e⟩ :: r) := rfl
    rw [hst] at h
    by_cases hp : p.first = e
    · rw [if_pos hp, Option.map_eq_none_iff] at h
      have hr : runsFrom e (p :: r) = gapOf e p.first ++ runsFrom (p.first + szM p.mod) r := rfl
      have hg : gapOf e p.first = [] := by unfold gapOf; rw [if_pos hp.symm]
      rw [hr, hg, List.nil_append, hp]
      exact runs_packed r _ h
    · rw [if_neg hp] at h
      cases h
theorem step_less : ∀ {L L' : List Plc} {e : Int}, okPl e L → stepFrom e L = some L' → ∀ (k : Nat) (p q : Plc), L[k]? = some p → L'[k]? = some q → q.mod = p.mod ∧ q.first ≤ p.first
  | [], _, _, _, h => by cases h
  | x :: r, L', e, ⟨h1, h2, h3, h4⟩, h => by
    intro k p q hk hq
    unfold stepFrom at h
    by_cases hp : x.first = e
    · rw [if_pos hp] at h
      obtain ⟨r', hr, rfl⟩ := Option.map_eq_some_iff.1 h
      rw [hp] at h4
      cases k with
      | zero =>
        obtain rfl : x = p := by simpa using hk
        obtain rfl : x = q := by simpa using hq
        exact ⟨rfl, Int.le_refl _⟩
      | succ k => exact step_less h4 hr k p q (by simpa using hk) (by simpa using hq)
    · rw [if_neg hp] at h
      obtain rfl := Option.some.inj h
      cases k with
      | zero =>
        obtain rfl : x = p := by simpa using hk
        obtain rfl : (⟨x.mod, e⟩ : Plc) = q := by simpa using hq
        exact ⟨rfl, h1⟩
      | succ k =>
        have hk' : r[k]? = some p := by simpa using hk
        have hq' : r[k]? = some q := by simpa using hq
        rw [hk'] at hq'
        obtain rfl := Option.some.inj hq'
        exact ⟨rfl, Int.le_refl _⟩
/-- The same of placed modules in memory. -/
theorem step_less_pv {l l' : List PV} {L' : List Plc} (hok : okPl 0 (l.map PV.plc)) (hs : stepFrom 0 (l.map PV.plc) = some L') (h : l'.map PV.plc = L') {k : Nat} {x y : PV} (hx : l[k]? = some x) (hy : l'[k]? = some y) : y.mod = x.mod ∧ y.first ≤ x.first := by
  have h1 : (l.map PV.plc)[k]? = some x.plc := by rw [List.getElem?_map, hx]; rfl
  have h2 : L'[k]? = some y.plc := by rw [← h, List.getElem?_map, hy]; rfl
  exact step_less hok hs k _ _ h1 h2

end Go.Proofs.YthmohjgdcjafkaeGreat

/- The contracts of the document's SizeOf, CheckModules (whole), CheckRegions. -/
namespace Go.Proofs.YthmohjgdcjafkaeGreat
open Go.RowKit Go.PlainAid

set_option maxRecDepth 100000

set_option maxHeartbeats 1000000 in
theorem sizeOf_any (N T : ByteArray) (ma mi : Int) (pe pi pp : Option Addr) (le ke li ki lp kp : Nat) (w : World) (hT : T.size ≤ 256) :
    Calls Tryz.prog 47 #[.agg #[.string N, .int .i64 ma, .int .i64 mi, .string T, .slice pe le ke, .slice pi li ki, .slice pp lp kp]] w fun e w' => e = .returned (.int .i64 (((T.size + 63) / 64 : Nat) : Int)) ∧ Below w.heap.size w w' := by
  have HB : Hid (Below w.heap.size w (w.alloc (.cells #[.string N, .int .i64 ma, .int .i64 mi, .string T, .slice pe le ke, .slice pi li ki, .slice pp lp kp] 31))) := (Below.refl _ _).alloc (Nat.le_refl _) _
  by_cases h : T.size % 64 = 0
  · have e1 : Hid (((T.size : Int)) / 64 = (((T.size + 63) / 64 : Nat) : Int)) := by show ((T.size : Int)) / 64 = (((T.size + 63) / 64 : Nat) : Int); omega
    have h1 : decide ((0 : Int) < (T.size : Int) % 64) = false := decide_eq_false (by omega)
    go_enter Tryz.func47, Tryz.ntmps47
    go_wp2
    go_ret
    refine ⟨?_, HB.out⟩
    show Ending.returned (.int .i64 ((T.size : Int) / 64)) = _
    rw [e1.out]
  · have e1 : Hid (((T.size : Int)) / 64 + 1 = (((T.size + 63) / 64 : Nat) : Int)) := by show ((T.size : Int)) / 64 + 1 = (((T.size + 63) / 64 : Nat) : Int); omega
    have h1 : (0 : Int) < (T.size : Int) % 64 := by omega
    go_enter Tryz.func47, Tryz.ntmps47
    go_wp2
    go_ret
    refine ⟨?_, HB.out⟩
    show Ending.returned (.int .i64 ((T.size : Int) / 64 + 1)) = _
    rw [e1.out]

set_option maxHeartbeats 2000000 in
theorem checkModules_whole (l : List PV) (v : Value) (w : World) (hrow : IsPlcs w.heap.size w v l) (hfit : ∀ x ∈ l, x.mod.fits) :
    Calls Tryz.prog 124 #[v, .bool true, .bool true] w fun e w' => e = .returned (.int .i64 (if 8 < l.length then 2 else chkBy outErr (l.map PV.plc))) ∧ Below w.heap.size w w' := by
  have HC0 : Hid (∀ x ∈ l, ∀ W, Below w.heap.size w W → Calls Tryz.prog 44 #[x.modV] W fun e w' => e = .returned (.int .i64 (chkMod x.mod)) ∧ Below W.heap.size W w') := fun x hx W hb => checkModule_any x.mod x.modV W (((hrow.2 x hx).below hb).more hb.size |>.isMod) (hfit x hx)
  have hat := hrow.2
  obtain ⟨⟨a, cap, rfl, _, hrow⟩, _⟩ := hrow
  by_cases h8 : 8 < l.length
  · rw [if_pos h8]
    have h8' : (8 : Int) < l.length := by omega
    clear HC0 hat hrow
    go_enter Tryz.func124, Tryz.ntmps124
    go_wp2
    go_ret
    exact ⟨rfl, Below.refl _ _⟩
  · rw [if_neg h8]
    have h8' : decide ((8 : Int) < l.length) = false := decide_eq_false (by omega)
    have h8'' : decide (8 < l.length) = false := decide_eq_false (by omega)
    go_enter Tryz.func124, Tryz.ntmps124
    go_wp2_with fail
    go_loopw [7] (fun i wr => ∃ (k : Nat), k ≤ l.length ∧ i = .int .i64 k ∧ Hid (chkBy outErr (l.map PV.plc) = chkBy outErr ((l.drop k).map PV.plc)) ∧ Below w.heap.size w wr) (fun i _ => l.length - (intOf i).toNat)
    case atStart => exact ⟨0, Nat.zero_le _, rfl, by show chkBy outErr (l.map PV.plc) = chkBy outErr ((l.drop 0).map PV.plc); rfl, Below.refl _ _⟩
    case round =>
      obtain ⟨k, hk, rfl, HC, B⟩ := hrel
      by_cases hlt : k < l.length
      · obtain ⟨x, hx⟩ : ∃ x, l[k]? = some x := ⟨_, List.getElem?_eq_getElem hlt⟩
        rcases hrow with h | ⟨b, off, rfl, hbn, hcells⟩
        · subst h; simp at hlt
        have key : (chkMod x.mod ≠ 0 ∧ chkBy outErr (x.plc :: (l.drop (k + 1)).map PV.plc) = chkMod x.mod) ∨ (chkMod x.mod = 0 ∧ betw x.first 0 (16 - (szM x.mod : Int)) = false ∧ chkBy outErr (x.plc :: (l.drop (k + 1)).map PV.plc) = 3) ∨ (chkMod x.mod = 0 ∧ betw x.first 0 (16 - (szM x.mod : Int)) = true ∧ chkBy outErr (x.plc :: (l.drop (k + 1)).map PV.plc) = chkBy outErr ((l.drop (k + 1)).map PV.plc)) := by
          have ho : outErr x.plc = if x.first < 0 ∨ 16 - (szM x.mod : Int) < x.first then 3 else 0 := rfl
          rcases chkBy_step outErr x.plc ((l.drop (k + 1)).map PV.plc) with ⟨h1, h2⟩ | ⟨h1, h2, h3⟩ | ⟨h1, h2, h3⟩
          · exact .inl ⟨h1, h2⟩
          · rw [ho] at h2 h3
            split at h2
            · rename_i hc
              rw [if_pos hc] at h3
              exact .inr (.inl ⟨h1, betw_false hc, h3⟩)
            · exact absurd rfl h2
          · rw [ho] at h2
            split at h2
            · exact absurd h2 (by decide)
            · rename_i hc
              exact .inr (.inr ⟨h1, betw_true (by omega) (by omega), h3⟩)
        have hsb : chkMod x.mod = 0 → szM x.mod ≤ 4 := fun h => (szM_bd h).2.1
        have HR : Hid (chkBy outErr (l.map PV.plc) = chkBy outErr (x.plc :: (l.drop (k + 1)).map PV.plc)) := by
          show chkBy outErr (l.map PV.plc) = _
          rw [HC.out, drop_at hx]; rfl
        have HM : Hid (∀ W, Below w.heap.size w W → Calls Tryz.prog 44 #[x.modV] W fun e w' => e = .returned (.int .i64 (chkMod x.mod)) ∧ Below W.heap.size W w') := HC0.out x (List.mem_of_getElem? hx)
        have HS : Hid (chkMod x.mod = 0 → ∀ W, Calls Tryz.prog 47 #[x.modV] W fun e w' => e = .returned (.int .i64 (szM x.mod : Int)) ∧ Below W.heap.size W w') := by
          intro h0 W
          obtain ⟨⟨pe, ke, e4, _⟩, ⟨pi, ki, e5, _⟩, ⟨pp, kp, e6, _⟩⟩ := hat x (List.mem_of_getElem? hx)
          unfold PV.modV
          rw [e4, e5, e6]
          exact sizeOf_any _ _ _ _ _ _ _ _ _ _ _ _ _ _ (szM_bd h0).2.2.1
        obtain ⟨⟨pe, ke, e4, _⟩, ⟨pi, ki, e5, _⟩, ⟨pp, kp, e6, _⟩⟩ := hat x (List.mem_of_getElem? hx)
        generalize hsz : szM x.mod = sz at *
        generalize hcm : chkMod x.mod = cm at *
        obtain ⟨⟨N, ma, mi, T, es, is, ps⟩, ve, vi, vp, fi⟩ := x
        dsimp only at e4 e5 e6
        subst e4 e5 e6
        have c0 := (B.cell (p := ⟨b, off + k * 8 + 0, none⟩) hbn).trans (hcells k _ hx 0 (by omega))
        have c1 := (B.cell (p := ⟨b, off + k * 8 + 1, none⟩) hbn).trans (hcells k _ hx 1 (by omega))
        have c2 := (B.cell (p := ⟨b, off + k * 8 + 2, none⟩) hbn).trans (hcells k _ hx 2 (by omega))
        have c3 := (B.cell (p := ⟨b, off + k * 8 + 3, none⟩) hbn).trans (hcells k _ hx 3 (by omega))
        have c4 := (B.cell (p := ⟨b, off + k * 8 + 4, none⟩) hbn).trans (hcells k _ hx 4 (by omega))
        have c5 := (B.cell (p := ⟨b, off + k * 8 + 5, none⟩) hbn).trans (hcells k _ hx 5 (by omega))
        have c6 := (B.cell (p := ⟨b, off + k * 8 + 6, none⟩) hbn).trans (hcells k _ hx 6 (by omega))
        have q0 := hcells k _ hx 0 (by omega)
        have q1 := hcells k _ hx 1 (by omega)
        have q2 := hcells k _ hx 2 (by omega)
        have q3 := hcells k _ hx 3 (by omega)
        have q4 := hcells k _ hx 4 (by omega)
        have q5 := hcells k _ hx 5 (by omega)
        have q6 := hcells k _ hx 6 (by omega)
        have q7 := hcells k _ hx 7 (by omega)
        dsimp only [PV.cell, PV.modV] at c0 c1 c2 c3 c4 c5 c6 q0 q1 q2 q3 q4 q5 q6 q7 HM HS
        rw [Nat.add_zero] at c0 q0
        clear HC HC0 hcells hx hat hsz hcm
        dsimp only at key
        generalize chkBy outErr (PV.plc ⟨⟨N, ma, mi, T, es, is, ps⟩, .slice pe es.length ke, .slice pi is.length ki, .slice pp ps.length kp, fi⟩ :: (l.drop (k + 1)).map PV.plc) = R at key HR
        generalize es.length = le at *
        generalize is.length = li at *
        generalize ps.length = lp at *
        go_wp2_with fail
        refine (HM.out _ B).mono ?_
        rintro e w2 ⟨rfl, b2⟩
        have B2 := B.trans (b2.mono B.size)
        clear b2 c0 c1 c2 c3 c4 c5 c6 HM
        rcases key with ⟨h1, rfl⟩ | ⟨rfl, h2, rfl⟩ | ⟨rfl, h2, rfl⟩
        · have h1' : (R != 0) = true := by simpa using h1
          go_wp2
          go_ret
          exact ⟨by rw [HR.out]; rfl, B2⟩
        all_goals
          have c0 := (B2.cell (p := ⟨b, off + k * 8, none⟩) hbn).trans q0
          have c1 := (B2.cell (p := ⟨b, off + k * 8 + 1, none⟩) hbn).trans q1
          have c2 := (B2.cell (p := ⟨b, off + k * 8 + 2, none⟩) hbn).trans q2
          have c3 := (B2.cell (p := ⟨b, off + k * 8 + 3, none⟩) hbn).trans q3
          have c4 := (B2.cell (p := ⟨b, off + k * 8 + 4, none⟩) hbn).trans q4
          have c5 := (B2.cell (p := ⟨b, off + k * 8 + 5, none⟩) hbn).trans q5
          have c6 := (B2.cell (p := ⟨b, off + k * 8 + 6, none⟩) hbn).trans q6
          have hs4 : sz ≤ 4 := by first | exact hsb rfl | exact hsb trivial | exact hsb
          clear q0 q1 q2 q3 q4 q5 q6 hsb
          go_wp2_with fail
          refine (HS.out (by first | rfl | trivial) _).mono ?_
          rintro e w3 ⟨rfl, b3⟩
          have B3 := B2.trans (b3.mono B2.size)
          have X7 := (B3.cell (p := ⟨b, off + k * 8 + 7, none⟩) hbn).trans q7
          clear b3 c0 c1 c2 c3 c4 c5 c6 q7 HS
        · go_wp2_with (go_at_call 90; refine (between_any _ _ _ _).mono ?_; rintro e w' ⟨rfl, rfl⟩)
          go_ret
          exact ⟨by rw [HR.out]; rfl, B3⟩
        · go_wp2_with (go_at_call 90; refine (between_any _ _ _ _).mono ?_; rintro e w' ⟨rfl, rfl⟩)
          exact ⟨⟨k + 1, by omega, by go_num, HR.out, B3⟩, by simp [intOf]; omega⟩
      · obtain rfl : k = l.length := by omega
        have HZ : Hid (chkBy outErr (l.map PV.plc) = 0) := by
          show chkBy outErr (l.map PV.plc) = 0
          rw [HC.out, List.drop_length]; rfl
        go_wp2
        go_ret
        exact ⟨by rw [HZ.out]; rfl, B⟩

end Go.Proofs.YthmohjgdcjafkaeGreat

/- Appends that may append nothing. -/
namespace Go.Proofs.YthmohjgdcjafkaeGreat

section
variable {P : Program} {ops : Array Oper} {Q : Exit → Act → World → Prop}
/-- Nothing is appended. -/
theorem wpList_append_none {rest : List Oper} {o : Oper} {a : Act} {w : World} (hgd : o.guard = none) (s x : Operand) (t : TypeId)
    (ho : o.op = .call { callee := .builtin .append, args := #[s, x], argTypes := #[t, t] })
    (e : TypeId) (i : TypeInfo) (ht : P.underlying t = some (.slice e)) (hi : P.info? e = some i)
    (base : Option Addr) (n c : Nat) (hs : a.eval s = .slice base n c) (hle : n ≤ c) (c' : Nat) (hx : a.eval x = .slice none 0 c')
    (h : wpList P ops Q rest (a.put o.dst (.slice base n c)) w) : wpList P ops Q (o :: rest) a w :=
  wpList_plain hgd fun K hK => by
    have hr := run_append_nothing (P := P) w t t o.type e i ht hi base n c hle (.slice none 0 c') (Src.ofNil _ ht c')
    unfold Oper.wp execOp
    simp only [ho, resolve, invoke, builtin, Sem.run_bind, Sem.run_pure, Result.andThen_ok, List.map_toArray, List.map_cons, List.map_nil, hs, hx, hr]
    exact hK _ _ h
/-- Something may be appended, to a row of one's own. -/
theorem wpList_append_may {rest : List Oper} {o : Oper} {a : Act} {w : World} (hgd : o.guard = none) (s x : Operand) (t : TypeId)
    (ho : o.op = .call { callee := .builtin .append, args := #[s, x], argTypes := #[t, t] })
    (base : Nat) (e : TypeId) (i : TypeInfo) (z : Value) (size bytes : Nat) (ht : P.underlying t = some (.slice e)) (hi : P.info? e = some i) (hz : i.zero = some z)
    (hsize : i.size = size) (hby : i.bytes = bytes) (hzs : z.cells.size = size) (hsz : 0 < size)
    (v : Value) (n : Nat) (xs : List Value) (hs : a.eval s = v) (hown : w.ownsRow base e size v n xs)
    (ad : Addr) (m c : Nat) (news : List Value) (hx : a.eval x = .slice (some ad) m c) (hl : news.length = m * size) (hnews : ∀ j u, news[j]? = some u → w.cell? (ad.add j) = some u) (h1 : ∀ u ∈ news, u.oneCell' = true)
    (h63 : n + m ≤ maxLen) (hbytes : (n + m) * bytes ≤ 140737488355328) (hbase : base ≤ w.heap.size)
    (h : ∀ a' c' w', w'.ownsRow base e size (.slice a' (n + m) c') (n + m) (xs ++ news) → w.grownBy w' v.ownBlock → wpList P ops Q rest (a.put o.dst (.slice a' (n + m) c')) w') : wpList P ops Q (o :: rest) a w :=
  wpList_plain hgd fun K hK => by
    obtain ⟨v', w', hr, h2, h3, _, _⟩ := run_append_own_at (P := P) w base t o.type e i z size bytes ht hi hz hsize hby hzs hsz v n xs hown ad m c news hl hnews h1 h63 hbytes hbase
    obtain ⟨a', c', rfl⟩ : ∃ a' c', v' = .slice a' (n + m) c' := by
      rcases h2.2 with ⟨rfl, h0⟩ | ⟨g, cap, cur, rfl, _⟩
      · exact ⟨_, _, by rw [h0]⟩
      · exact ⟨_, _, rfl⟩
    unfold Oper.wp execOp
    simp only [ho, resolve, invoke, builtin, Sem.run_bind, Sem.run_pure, Result.andThen_ok, List.map_toArray, List.map_cons, List.map_nil, hs, hx, hr]
    exact hK _ _ (h a' c' w' h2 h3)
end

end Go.Proofs.YthmohjgdcjafkaeGreat

/- The contract of the document's StepOf. -/
namespace Go.Proofs.YthmohjgdcjafkaeGreat
open Go.RowKit Go.PlainAid Go.Lib

set_option maxRecDepth 100000

theorem append_row {w : World} {l : List PV} {v : Value} {n0 : Nat} (hrow : RowOf 8 PV.cell n0 w v l) : (∃ c, v = .slice none 0 c ∧ l = []) ∨ ∃ ad c, v = .slice (some ad) l.length c ∧ ∀ (w' : World), Below n0 w w' → ∀ j u, (l.flatMap pvC)[j]? = some u → w'.cell? (ad.add j) = some u := by
  obtain ⟨a, cap, rfl, _, h⟩ := hrow
  cases a with
  | none =>
    rcases h with rfl | ⟨b, off, e, _⟩
    · exact .inl ⟨cap, rfl, rfl⟩
    · cases e
  | some ad =>
    refine .inr ⟨ad, cap, rfl, fun w' hb => ?_⟩
    rcases h with rfl | ⟨b, off, e, hbn, hc⟩
    · intro j u hu; simp at hu
    · injection e with e
      subst e
      exact news_row (C := pvC) (cells := PV.cell) (sz := 8) (by decide) (fun _ => rfl) pvC_at fun j x hx i hi => (hb.cell (p := ⟨b, off + j * 8 + i, none⟩) hbn).trans (hc j x hx i hi)

theorem step_at {e : Int} {L P D : List Plc} {x : Plc} (h : stepFrom 0 L = (stepFrom e (x :: D)).map (P ++ ·)) :
    (x.first = e → stepFrom 0 L = (stepFrom (e + szM x.mod) D).map ((P ++ [x]) ++ ·)) ∧ (x.first ≠ e → stepFrom 0 L = some (P ++ ⟨x.mod, e⟩ :: D)) := by
  have hs : stepFrom e (x :: D) = if x.first = e then (stepFrom (e + szM x.mod) D).map (x :: ·) else some (⟨x.mod, e⟩ :: D) := rfl
  refine ⟨fun h1 => ?_, fun h1 => ?_⟩
  · rw [h, hs, if_pos h1, Option.map_map]
    congr 1
    funext y
    simp
  · rw [h, hs, if_neg h1]
    rfl

set_option maxHeartbeats 16000000 in
theorem stepOf_any (K : Ker) (l : List PV) (v : Value) (w : World) (hreg : IsReg w.heap.size w v K l) (hl : l.length ≤ 8) (hsz : ∀ x ∈ l, x.mod.text.size ≤ 256) :
    Calls Tryz.prog 25 #[v] w fun e w' => (∃ (v' : Value) (l' : List PV), e = .returned (.tuple #[v', .bool (stepRes (l.map PV.plc)).2]) ∧ l'.map PV.plc = (stepRes (l.map PV.plc)).1 ∧ l'.map (·.mod) = l.map (·.mod) ∧ IsReg w'.heap.size w' v' K l') ∧ Below w.heap.size w w' := by
  obtain ⟨ii, hii, hz0, hz1, hz2⟩ := infoPlc_parts
  obtain ⟨SR, hSR⟩ : ∃ SR, SR = stepRes (l.map PV.plc) := ⟨_, rfl⟩
  rw [← hSR]
  have HSR : Hid (SR = stepRes (l.map PV.plc)) := hSR
  clear hSR
  obtain ⟨SL, sb⟩ := SR
  dsimp only
  obtain ⟨ve, vl, rfl, hE, hL⟩ := hreg
  have HE0 : Hid (RowOf 2 Exp.cell w.heap.size w ve K.exps) := hE
  have HAT : Hid (∀ x ∈ l, PlcAt w.heap.size w x) := hL.2
  have HSZ : Hid (∀ x ∈ l, x.mod.text.size ≤ 256) := hsz
  have happ := append_row hL.1
  obtain ⟨qe, je, rfl, -, -⟩ := hE
  obtain ⟨⟨a, cap, rfl, -, -⟩, -⟩ := hL
  obtain ⟨ma, mi, ks⟩ := K
  dsimp only at *
  generalize hlk : ks.length = lk at *
  have HLK : Hid (ks.length = lk) := hlk
  clear hlk hsz
  have HB3 : Hid (Below w.heap.size w (((w.alloc (.cells #[.int .i64 ma, .int .i64 mi, .slice qe lk je, .slice a l.length cap] 27)).alloc (.cells #[.int .i64 0, .int .i64 0, .slice none 0 0, .slice none 0 0] 27)).alloc (.cells #[.int .i64 ma, .int .i64 mi, .slice qe lk je, .slice a l.length cap] 27))) := (((Below.refl _ _).alloc (Nat.le_refl _) _).alloc (by simp) _).alloc (by simp; omega) _
  have HZ3 : Hid (CellsAt (((w.alloc (.cells #[.int .i64 ma, .int .i64 mi, .slice qe lk je, .slice a l.length cap] 27)).alloc (.cells #[.int .i64 0, .int .i64 0, .slice none 0 0, .slice none 0 0] 27)).alloc (.cells #[.int .i64 ma, .int .i64 mi, .slice qe lk je, .slice a l.length cap] 27)) (w.heap.size + 1) 27 #[.int .i64 0, .int .i64 0, .slice none 0 0, .slice none 0 0]) := by
    have := (CellsAt.new (w.alloc (.cells #[.int .i64 ma, .int .i64 mi, .slice qe lk je, .slice a l.length cap] 27)) 27 #[.int .i64 0, .int .i64 0, .slice none 0 0, .slice none 0 0]).kept (World.grownBy_alloc _ (.cells #[.int .i64 ma, .int .i64 mi, .slice qe lk je, .slice a l.length cap] 27) none) (by simp)
    rw [World.size_alloc] at this
    exact this
  have HC3 : Hid (CellsAt (((w.alloc (.cells #[.int .i64 ma, .int .i64 mi, .slice qe lk je, .slice a l.length cap] 27)).alloc (.cells #[.int .i64 0, .int .i64 0, .slice none 0 0, .slice none 0 0] 27)).alloc (.cells #[.int .i64 ma, .int .i64 mi, .slice qe lk je, .slice a l.length cap] 27)) (w.heap.size + 2) 27 #[.int .i64 ma, .int .i64 mi, .slice qe lk je, .slice a l.length cap]) := by
    have := CellsAt.new ((w.alloc (.cells #[.int .i64 ma, .int .i64 mi, .slice qe lk je, .slice a l.length cap] 27)).alloc (.cells #[.int .i64 0, .int .i64 0, .slice none 0 0, .slice none 0 0] 27)) 27 #[.int .i64 ma, .int .i64 mi, .slice qe lk je, .slice a l.length cap]
    rw [World.size_alloc, World.size_alloc] at this
    exact this
  have HR3 : Hid (CellsAt (((w.alloc (.cells #[.int .i64 ma, .int .i64 mi, .slice qe lk je, .slice a l.length cap] 27)).alloc (.cells #[.int .i64 0, .int .i64 0, .slice none 0 0, .slice none 0 0] 27)).alloc (.cells #[.int .i64 ma, .int .i64 mi, .slice qe lk je, .slice a l.length cap] 27)) w.heap.size 27 #[.int .i64 ma, .int .i64 mi, .slice qe lk je, .slice a l.length cap]) := ((CellsAt.new w 27 #[.int .i64 ma, .int .i64 mi, .slice qe lk je, .slice a l.length cap]).kept (World.grownBy_alloc _ _ none) (by simp)).kept (World.grownBy_alloc _ _ none) (by simp)
  have HS3 : Hid (((((w.alloc (.cells #[.int .i64 ma, .int .i64 mi, .slice qe lk je, .slice a l.length cap] 27)).alloc (.cells #[.int .i64 0, .int .i64 0, .slice none 0 0, .slice none 0 0] 27)).alloc (.cells #[.int .i64 ma, .int .i64 mi, .slice qe lk je, .slice a l.length cap] 27))).heap.size = w.heap.size + 3) := by show _ = _; simp
  go_enter Tryz.func25, Tryz.ntmps25
  go_upto_region 2 with fail
  generalize (((w.alloc (.cells #[.int .i64 ma, .int .i64 mi, .slice qe lk je, .slice a l.length cap] 27)).alloc (.cells #[.int .i64 0, .int .i64 0, .slice none 0 0, .slice none 0 0] 27)).alloc (.cells #[.int .i64 ma, .int .i64 mi, .slice qe lk je, .slice a l.length cap] 27)) = w3 at *
  have hs3 := HS3.out
  have B4 : Below w.heap.size w (w3.alloc (.cells #[] 54)) := HB3.out.alloc HB3.out.size _
  have Z4 : CellsAt (w3.alloc (.cells #[] 54)) (w.heap.size + 1) 27 #[.int .i64 0, .int .i64 0, .slice none 0 0, .slice none 0 0] := HZ3.out.kept (World.grownBy_alloc _ _ none) (by simp)
  have C4 : CellsAt (w3.alloc (.cells #[] 54)) (w.heap.size + 2) 27 #[.int .i64 ma, .int .i64 mi, .slice qe lk je, .slice a l.length cap] := HC3.out.kept (World.grownBy_alloc _ _ none) (by simp)
  have O4 : (w3.alloc (.cells #[] 54)).ownsRow (w.heap.size + 3) 54 8 (.slice (some ⟨(w.heap.size + 3), 0, none⟩) 0 0) 0 [] := by
    have := own_empty (W := w3) (base := w3.heap.size) (e := 54) (Nat.le_refl _) (sz := 8)
    rwa [hs3] at this
  have HAP : Hid (∀ (oa : Option Addr) (oc : Nat) (w5 : World), w5.ownsRow (w.heap.size + 3) 54 8 (.slice oa l.length oc) l.length (l.flatMap pvC) → (w3.alloc (.cells #[] 54)).grownBy w5 (some (w.heap.size + 3)) → Below w.heap.size w w5 ∧ CellsAt w5 (w.heap.size + 1) 27 #[.int .i64 0, .int .i64 0, .slice none 0 0, .slice none 0 0] ∧ CellsAt w5 (w.heap.size + 2) 27 #[.int .i64 ma, .int .i64 mi, .slice qe lk je, .slice a l.length cap]) := fun oa oc w5 h1 h2 => ⟨B4.grown h2 B4.size (fun q hq => by obtain rfl := Option.some.inj hq; omega), Z4.kept h2 (by intro e; have := Option.some.inj e; omega), C4.kept h2 (by intro e; have := Option.some.inj e; omega)⟩
  have HO4 : Hid _ := O4
  have HB4 : Hid (Below w.heap.size w (w3.alloc (.cells #[] 54))) := B4
  go_cut [] from 5 (fun wx => ∃ (oa : Option Addr) (oc : Nat), Hid (wx.ownsRow (w.heap.size + 3) 54 8 (.slice oa l.length oc) l.length (l.flatMap pvC)) ∧ Hid (CellsAt wx (w.heap.size + 1) 27 #[.int .i64 0, .int .i64 0, .slice none 0 0, .slice none 0 0]) ∧ Hid (CellsAt wx (w.heap.size + 2) 27 #[.int .i64 ma, .int .i64 mi, .slice qe lk je, .slice oa l.length oc]) ∧ Hid (Below w.heap.size w wx))
  case first =>
    have k3 := CellsAt.cell HR3.out 3
    have kl := CellsAt.lt HR3.out
    simp at k3
    have HC4 : Hid _ := C4
    have HZ4 : Hid _ := Z4
    clear C4 Z4 B4 O4 HR3 HS3
    have STORE : ∀ (oa : Option Addr) (oc : Nat) (w5 : World), Hid (w5.ownsRow (w.heap.size + 3) 54 8 (.slice oa l.length oc) l.length (l.flatMap pvC)) → Hid ((w3.alloc (.cells #[] 54)).grownBy w5 (some (w.heap.size + 3))) → Hid (w5.ownsRow (w.heap.size + 3) 54 8 (.slice oa l.length oc) l.length (l.flatMap pvC) ∧ CellsAt w5 (w.heap.size + 1) 27 #[.int .i64 0, .int .i64 0, .slice none 0 0, .slice none 0 0] ∧ CellsAt w5 (w.heap.size + 2) 27 #[.int .i64 ma, .int .i64 mi, .slice qe lk je, .slice a l.length cap] ∧ Below w.heap.size w w5) := fun oa oc w5 h1 h2 => ⟨h1.out, (HAP.out oa oc w5 h1.out h2.out).2.1, (HAP.out oa oc w5 h1.out h2.out).2.2, (HAP.out oa oc w5 h1.out h2.out).1⟩
    have HST : Hid _ := STORE
    clear STORE
    rcases happ with ⟨c, hv, hl0⟩ | ⟨ad, c, hv, hnews⟩
    · injection hv with e1 e2 e3
      subst e1 e3
      clear e2
      subst hl0
      have HOX : Hid ((w3.alloc (.cells #[] 54)).ownsRow (w.heap.size + 3) 54 8 (.slice (some ⟨(w.heap.size + 3), 0, none⟩) ([] : List PV).length 0) ([] : List PV).length (([] : List PV).flatMap pvC)) := HO4
      have HGX : Hid ((w3.alloc (.cells #[] 54)).grownBy (w3.alloc (.cells #[] 54)) (some (w.heap.size + 3))) := ⟨rfl, rfl, rfl, Nat.le_refl _, fun k _ _ => rfl⟩
      have HQ := HST.out _ _ _ HOX HGX
      have hq1 := CellsAt.cell HQ.out.2.2.1 3
      have hq2 := CellsAt.frozen HQ.out.2.2.1 3
      have hq3 := CellsAt.lt HQ.out.2.2.1
      simp at hq1
      go_wp2_with (at_builtin; refine wpList_append_none rfl _ _ _ rfl 54 ii Tryz.underlying25 hii (some ⟨(w.heap.size + 3), 0, none⟩) 0 0 rfl (Nat.le_refl _) cap rfl ?_)
      go_meet
      have hz := grown_set w3 (w.heap.size + 2) 3 (.slice (some ⟨(w.heap.size + 3), 0, none⟩) 0 0)
      have hcs := CellsAt.set 3 (.slice (some ⟨(w.heap.size + 3), 0, none⟩) 0 0) HC3.out
      simp only [List.setIfInBounds_toArray, List.set_cons_zero, List.set_cons_succ] at hcs
      have ho := own_empty (W := w3.setCell ⟨w.heap.size + 2, 3, none⟩ (.slice (some ⟨(w.heap.size + 3), 0, none⟩) 0 0)) (base := w.heap.size + 3) (e := 54) (by simp [World.setCell, hs3]) (sz := 8)
      rw [show (w3.setCell ⟨w.heap.size + 2, 3, none⟩ (.slice (some ⟨(w.heap.size + 3), 0, none⟩) 0 0)).heap.size = w.heap.size + 3 by simp [World.setCell, hs3]] at ho
      have hb := HB3.out.grown hz HB3.out.size (fun q hq => by obtain rfl := Option.some.inj hq; omega)
      exact ⟨some ⟨(w.heap.size + 3), 0, none⟩, 0, ho, (HZ3.out.kept hz (by intro e; have := Option.some.inj e; omega)).kept (World.grownBy_alloc _ _ none) (by simp), CellsAt.kept hcs (World.grownBy_alloc _ _ none) (by simp), hb.alloc hb.size _⟩
    · injection hv with e1 e2 e3
      subst e1 e3
      clear e2
      have hnw := hnews (w3.alloc (.cells #[] 54)) HB4.out
      clear hnews
      have HONE : Hid (∀ u ∈ l.flatMap pvC, u.oneCell' = true) := pvs_one HAT.out
      go_wp2_with (at_builtin; refine wpList_append_may rfl _ _ _ rfl (w.heap.size + 3) 54 ii _ 8 128 Tryz.underlying25 hii hz0 hz1 hz2 rfl (by omega) (.slice (some ⟨(w.heap.size + 3), 0, none⟩) 0 0) 0 [] rfl HO4.out ad l.length cap (l.flatMap pvC) rfl (flat_len (C := pvC) (sz := 8) (fun _ => rfl) l) hnw HONE.out (by unfold maxLen; omega) (by omega) (by simp; omega) ?_; intro oa oc w5 hown hgrow; rw [Nat.zero_add, List.nil_append] at hown; rw [Nat.zero_add]; have HOX : Hid _ := hown; have HGX : Hid ((w3.alloc (.cells #[] 54)).grownBy w5 (some (w.heap.size + 3))) := hgrow; have HQ : Hid _ := HST.out _ _ _ HOX HGX; have hq1 := CellsAt.cell HQ.out.2.2.1 3; have hq2 := CellsAt.frozen HQ.out.2.2.1 3; have hq3 := CellsAt.lt HQ.out.2.2.1; simp at hq1; clear hown hgrow)
      go_meet
      have hz := grown_set w5 (w.heap.size + 2) 3 (.slice oa l.length oc)
      have hcs := CellsAt.set 3 (.slice oa l.length oc) HQ.out.2.2.1
      simp only [List.setIfInBounds_toArray, List.set_cons_zero, List.set_cons_succ] at hcs
      exact ⟨oa, oc, HQ.out.1.kept hz (.inr (own_ne_cells HQ.out.1 HQ.out.2.2.1 (by decide))), HQ.out.2.1.kept hz (by intro e; have := Option.some.inj e; omega), hcs, HQ.out.2.2.2.grown hz HQ.out.2.2.2.size (fun q hq => by obtain rfl := Option.some.inj hq; omega)⟩
  case rest =>
  obtain ⟨oa, oc, HO, HZ, HC, HB⟩ := hcut
  clear HO4 HB4 HAP happ B4 Z4 C4 O4 HB3 HZ3 HC3 HR3 HS3
  have HL0 : Hid (stepFrom 0 (l.map PV.plc) = (stepFrom 0 ((l.drop 0).map PV.plc)).map (((l.take 0).map PV.plc) ++ ·)) := by
    show _ = Option.map (fun x => [] ++ x) _
    simp
  obtain ⟨wq, hwq⟩ : ∃ x, x = wc := ⟨_, rfl⟩
  subst hwq
  go_wp2_with fail
  go_loopg [5, 6] l.length (fun gk s5 s6 wr => ∃ (k : Nat) (e : Int), Hid (gk = l.length - k) ∧ k ≤ l.length ∧ s5 = .int .i64 e ∧ s6 = .int .i64 k ∧ Hid (0 ≤ e ∧ e ≤ 4 * (k : Int)) ∧ Hid (stepFrom 0 (l.map PV.plc) = (stepFrom e ((l.drop k).map PV.plc)).map (((l.take k).map PV.plc) ++ ·)) ∧ Hid (wr.ownsRow (w.heap.size + 3) 54 8 (.slice oa l.length oc) l.length (l.flatMap pvC)) ∧ Hid (CellsAt wr (w.heap.size + 1) 27 #[.int .i64 0, .int .i64 0, .slice none 0 0, .slice none 0 0]) ∧ Hid (CellsAt wr (w.heap.size + 2) 27 #[.int .i64 ma, .int .i64 mi, .slice qe lk je, .slice oa l.length oc]) ∧ Hid (Below w.heap.size w wr))
  case atStart => exact ⟨0, 0, (rfl : l.length = l.length - 0), Nat.zero_le _, rfl, rfl, ⟨Int.le_refl _, by omega⟩, HL0, HO, HZ, HC, HB⟩
  case round =>
    obtain ⟨k, e, HGK, hk, rfl, rfl, HE, HS, HO1, HZ1, HC1, HB1⟩ := hrel
    clear HO HZ HC HB HL0
    have c0 := CellsAt.cell HC1.out 0
    have c1 := CellsAt.cell HC1.out 1
    have c2 := CellsAt.cell HC1.out 2
    have c3 := CellsAt.cell HC1.out 3
    have cl := CellsAt.lt HC1.out
    simp at c0 c1 c2 c3
    have z0 := CellsAt.cell HZ1.out 0
    have z1 := CellsAt.cell HZ1.out 1
    have z2 := CellsAt.cell HZ1.out 2
    have z3 := CellsAt.cell HZ1.out 3
    have f0 := CellsAt.frozen HZ1.out 0
    have f1 := CellsAt.frozen HZ1.out 1
    have f2 := CellsAt.frozen HZ1.out 2
    have f3 := CellsAt.frozen HZ1.out 3
    simp at z0 z1 z2 z3
    by_cases hlt : k < l.length
    · obtain ⟨x, hx⟩ : ∃ x, l[k]? = some x := ⟨_, List.getElem?_eq_getElem hlt⟩
      obtain ⟨g, gc, ea, -⟩ : ∃ g c9, Value.slice oa l.length oc = .slice (some ⟨g, 0, none⟩) l.length c9 ∧ True := by
        rcases HO1.out.2 with ⟨_, hn⟩ | ⟨g, c9, cur, e, _⟩
        · omega
        · exact ⟨g, c9, e, trivial⟩
      injection ea with ea1 ea2 ea3
      subst ea1 ea3
      have fl := fun i (hi : i < 8) => flat_at (C := pvC) (sz := 8) (fun _ => rfl) l k x i hx hi
      have cl8 := fun i (hi : i < 8) => (World.ownsRow.cellAt HO1.out (k * 8 + i) (by omega)).trans (fl i hi)
      have HX : Hid (l[k]? = some x) := hx
      have hdrop : l.drop k = x :: l.drop (k + 1) := drop_at hx
      have hsa := HS.out
      rw [hdrop, List.map_cons] at hsa
      obtain ⟨hs1, hs2⟩ := step_at hsa
      have htake : (l.take k).map PV.plc ++ [x.plc] = (l.take (k + 1)).map PV.plc := by
        rw [List.take_add_one, hx, List.map_append]
        rfl
      rw [htake] at hs1
      have HS1 : Hid (x.first = e → stepFrom 0 (l.map PV.plc) = (stepFrom (e + szM x.mod) ((l.drop (k + 1)).map PV.plc)).map ((l.take (k + 1)).map PV.plc ++ ·)) := hs1
      have HS2 : Hid (x.first ≠ e → stepFrom 0 (l.map PV.plc) = some ((l.set k (x.at e)).map PV.plc)) := fun h => by
        rw [hs2 h]
        congr 1
        rw [List.set_eq_take_append_cons_drop, if_pos hlt, List.map_append, List.map_cons]
        rfl
      have hxm := List.mem_of_getElem? hx
      have htz := HSZ.out x hxm
      have hxat := HAT.out x hxm
      have hszm : szM x.mod ≤ 4 := by unfold szM; omega
      have HXA : Hid (PlcAt w.heap.size w x) := hxat
      obtain ⟨⟨pe, ke, e4, -⟩, ⟨pi, ki, e5, -⟩, ⟨pp, kp, e6, -⟩⟩ := hxat
      have HXV : Hid (x = x) := rfl
      obtain ⟨⟨N, xa, xi, T, es, is, ps⟩, xve, xvi, xvp, fi⟩ := x
      dsimp only at *
      subst e4 e5 e6
      have d0 : wr.cell? ⟨g, k * 8, none⟩ = some (.string N) := cl8 0 (by omega)
      have d1 : wr.cell? ⟨g, k * 8 + 1, none⟩ = some (.int .i64 xa) := cl8 1 (by omega)
      have d2 : wr.cell? ⟨g, k * 8 + 2, none⟩ = some (.int .i64 xi) := cl8 2 (by omega)
      have d3 : wr.cell? ⟨g, k * 8 + 3, none⟩ = some (.string T) := cl8 3 (by omega)
      have d4 : wr.cell? ⟨g, k * 8 + 4, none⟩ = some (.slice pe es.length ke) := cl8 4 (by omega)
      have d5 : wr.cell? ⟨g, k * 8 + 5, none⟩ = some (.slice pi is.length ki) := cl8 5 (by omega)
      have d6 : wr.cell? ⟨g, k * 8 + 6, none⟩ = some (.slice pp ps.length kp) := cl8 6 (by omega)
      have d7 : wr.cell? ⟨g, k * 8 + 7, none⟩ = some (.int .i64 fi) := cl8 7 (by omega)
      have hkl : (k : Int) < (l.length : Int) := by omega
      have hk0 : ¬ ((k : Int) < 0) := by omega
      clear fl cl8 hdrop hsa hs1 hs2 htake hx hxm HXV
      by_cases hfe : fi = e
      · have HS3 : Hid (stepFrom 0 (l.map PV.plc) = (stepFrom (e + szM ⟨N, xa, xi, T, es, is, ps⟩) ((l.drop (k + 1)).map PV.plc)).map ((l.take (k + 1)).map PV.plc ++ ·)) := HS1.out hfe
        have hfe' : (fi != e) = false := by simpa using hfe
        have HEE := HE.out
        have hmz : ((T.size + 63) / 64 : Nat) ≤ 4 := hszm
        obtain ⟨z8, hz8⟩ : ∃ z : Nat, z = (T.size + 63) / 64 := ⟨_, rfl⟩
        have HSO : Hid (∀ W, Calls Tryz.prog 47 #[.agg #[.string N, .int .i64 xa, .int .i64 xi, .string T, .slice pe es.length ke, .slice pi is.length ki, .slice pp ps.length kp]] W fun e w' => e = .returned (.int .i64 (z8 : Int)) ∧ Below W.heap.size W w') := fun W => by rw [hz8]; exact sizeOf_any N T xa xi pe pi pp _ _ _ _ _ _ W htz
        have HZ8 : Hid ((szM ⟨N, xa, xi, T, es, is, ps⟩ : Int) = (z8 : Int)) := by show _ = _; rw [hz8]; rfl
        rw [← hz8] at hmz
        have ew : wrap64 (e + (z8 : Int)) = e + (z8 : Int) := by unfold wrap64; omega
        have HE2 : Hid (0 ≤ e + (z8 : Int) ∧ e + (z8 : Int) ≤ 4 * ((k + 1 : Nat) : Int)) := ⟨by omega, by omega⟩
        clear hz8 hszm hfe HS1 HS2 HS HEE
        go_wp2_with fail
        refine (HSO.out _).mono ?_
        rintro e9 w2 ⟨rfl, b2⟩
        have HB2 : Hid (Below w.heap.size w w2) := HB1.out.trans (b2.mono HB1.out.size)
        have HO2 : Hid (w2.ownsRow (w.heap.size + 3) 54 8 (.slice (some ⟨g, 0, none⟩) l.length oc) l.length (l.flatMap pvC)) := own_below HO1.out b2
        have HZ2 : Hid (CellsAt w2 (w.heap.size + 1) 27 #[.int .i64 0, .int .i64 0, .slice none 0 0, .slice none 0 0]) := CellsAt.below HZ1.out b2 HZ1.out.lt
        have HC2 : Hid (CellsAt w2 (w.heap.size + 2) 27 #[.int .i64 ma, .int .i64 mi, .slice qe lk je, .slice (some ⟨g, 0, none⟩) l.length oc]) := CellsAt.below HC1.out b2 HC1.out.lt
        clear b2 HSO HB1 HO1 HZ1 HC1
        go_wp2_with fail
        go_roundg (l.length - (k + 1))
        case measure =>
          have := HGK.out
          omega
        case rel => exact ⟨k + 1, e + (z8 : Int), (rfl : l.length - (k + 1) = l.length - (k + 1)), by omega, by go_num, by go_num, HE2, (by have := HS3.out; rw [HZ8.out] at this; exact this), HO2, HZ2, HC2, HB2⟩
      · have HS3 : Hid (stepFrom 0 (l.map PV.plc) = some ((l.set k (PV.at ⟨⟨N, xa, xi, T, es, is, ps⟩, .slice pe es.length ke, .slice pi is.length ki, .slice pp ps.length kp, fi⟩ e)).map PV.plc)) := HS2.out hfe
        have hfe' : (fi != e) = true := by simpa using hfe
        have g7 := HO1.out.frozenAt (k * 8 + 7)
        clear HS1 HS2 HS hfe hszm
        go_wp2
        obtain ⟨hO9, hG9⟩ := own_first HO1.out HX.out e
        have hZ7 := cells_beside HZ1.out HO1.out (by decide) hG9
        have hB7 := HB1.out.grown hG9 HB1.out.size (fun q hq => by have := own_block HO1.out g rfl; obtain rfl := Option.some.inj hq; omega)
        have hZ9 := sets4 hZ7 (.int .i64 ma) (.int .i64 mi) (.slice qe lk je) (.slice (some ⟨g, 0, none⟩) l.length oc)
        have hGz := sets4_grown (wr.setCell ⟨g, k * 8 + 7, none⟩ (.int .i64 e)) (w.heap.size + 1) (.int .i64 ma) (.int .i64 mi) (.slice qe lk je) (.slice (some ⟨g, 0, none⟩) l.length oc)
        have hB9 := hB7.grown hGz hB7.size (fun q hq => by obtain rfl := Option.some.inj hq; omega)
        have hO10 := hO9.kept hGz (.inr (own_ne_cells hO9 hZ7 (by decide)))
        have hsr := HSR.out
        have hsr2 : stepRes (l.map PV.plc) = ((l.set k (PV.at ⟨⟨N, xa, xi, T, es, is, ps⟩, .slice pe es.length ke, .slice pi is.length ki, .slice pp ps.length kp, fi⟩ e)).map PV.plc, true) := by unfold stepRes; rw [HS3.out]
        rw [hsr2] at hsr
        injection hsr with hq1 hq2
        subst hq1 hq2
        refine bodyPost_ret (results_cell_tmp_row rfl _ _ _ _ _ _ _ rfl hZ9 Tryz.underlying27 rfl (by kernel_rfl)) rfl ?_
        refine ⟨⟨_, rfl, l.set k (PV.at ⟨⟨N, xa, xi, T, es, is, ps⟩, .slice pe es.length ke, .slice pi is.length ki, .slice pp ps.length kp, fi⟩ e), rfl, ?_, _, _, rfl, (HE0.out.below hB9).more hB9.size, ⟨own_rows (C := pvC) (cells := PV.cell) (sz := 8) (fun _ => rfl) pvC_at (by rw [List.length_set]; exact hO10) (by rw [List.length_set]; omega), fun y hy => ?_⟩⟩, hB9⟩
        · rw [List.map_set]
          apply List.ext_getElem?
          intro i
          rw [List.getElem?_set]
          by_cases hij : k = i
          · subst hij
            rw [if_pos rfl, if_pos (by rw [List.length_map]; exact hlt), List.getElem?_map, HX.out]
            rfl
          · rw [if_neg hij]
        · rcases List.mem_or_eq_of_mem_set hy with hy | rfl
          · exact ((HAT.out y hy).below hB9).more hB9.size
          · have := (HXA.out.below hB9).more hB9.size
            exact ⟨this.1, this.2.1, this.2.2⟩
    · obtain rfl : k = l.length := by omega
      have HS3 : Hid (stepFrom 0 (l.map PV.plc) = none) := by
        have := HS.out
        rw [List.drop_length] at this
        exact this
      clear HS HE
      go_wp2
      have hZ9 := sets4 HZ1.out (.int .i64 ma) (.int .i64 mi) (.slice qe lk je) (.slice oa l.length oc)
      have hGz := sets4_grown wr (w.heap.size + 1) (.int .i64 ma) (.int .i64 mi) (.slice qe lk je) (.slice oa l.length oc)
      have hB9 := HB1.out.grown hGz HB1.out.size (fun q hq => by obtain rfl := Option.some.inj hq; omega)
      have hO10 := HO1.out.kept hGz (.inr (own_ne_cells HO1.out HZ1.out (by decide)))
      have hsr := HSR.out
      have hsr2 : stepRes (l.map PV.plc) = (l.map PV.plc, false) := by unfold stepRes; rw [HS3.out]
      rw [hsr2] at hsr
      injection hsr with hq1 hq2
      subst hq1 hq2
      refine bodyPost_ret (results_cell_tmp_row rfl _ _ _ _ _ _ _ rfl hZ9 Tryz.underlying27 rfl (by kernel_rfl)) rfl ?_
      exact ⟨⟨_, l, rfl, rfl, rfl, _, _, rfl, (HE0.out.below hB9).more hB9.size, ⟨own_rows (C := pvC) (cells := PV.cell) (sz := 8) (fun _ => rfl) pvC_at hO10 (by omega), fun y hy => ((HAT.out y hy).below hB9).more hB9.size⟩⟩, hB9⟩

end Go.Proofs.YthmohjgdcjafkaeGreat

/- The contract of the document's PackOf. -/
namespace Go.Proofs.YthmohjgdcjafkaeGreat
open Go.RowKit Go.PlainAid Go.Lib

set_option maxRecDepth 100000

theorem reg_cells4 {W : World} {B : Nat} {t : TypeId} {x y : Int} {p q : Option Addr} {a b c d : Nat} (h : CellsAt W B t #[.int .i64 x, .int .i64 y, .slice p a b, .slice q c d]) (off : Nat) :
    (∀ s, W.cell? ⟨B, off, none⟩ ≠ some (.string s)) ∧ ∀ a b c, W.cell? ⟨B, off, none⟩ = some (.int .i64 a) → W.cell? ⟨B, off + 1, none⟩ = some (.int .i64 b) → W.cell? ⟨B, off + 2, none⟩ ≠ some (.int .i64 c) := by
  have c0 := h.cell off
  have c1 := h.cell (off + 1)
  have c2 := h.cell (off + 2)
  rw [c0, c1, c2]
  match off with
  | 0 => simp
  | 1 => simp
  | 2 => simp
  | 3 => simp
  | k + 4 => simp
theorem IsReg.apart4 {n : Nat} {W W' : World} {v : Value} {K : Ker} {l : List PV} (h : IsReg n W v K l) {B : Nat} {t : TypeId} (hg : W.grownBy W' (some B)) (hn : n ≤ W.heap.size) {x y : Int} {p q : Option Addr} {a b c d : Nat} (hB : CellsAt W B t #[.int .i64 x, .int .i64 y, .slice p a b, .slice q c d]) : IsReg n W' v K l := by
  obtain ⟨ve, vl, e, h1, h2, h3⟩ := h
  refine ⟨ve, vl, e, h1.apart hg hn ?_, h2.apart hg hn ?_, fun x hx => ?_⟩
  · intro off x _ hc
    exact (reg_cells4 hB off).1 _ (hc 0 (by omega))
  · intro off x _ hc
    exact (reg_cells4 hB off).1 _ (hc 0 (by omega))
  · obtain ⟨g1, g2, g3⟩ := h3 x hx
    refine ⟨g1.apart hg hn ?_, g2.apart hg hn ?_, g3.apart hg hn ?_⟩
    · intro off x _ hc
      exact (reg_cells4 hB off).1 _ (hc 0 (by omega))
    · intro off x _ hc
      exact (reg_cells4 hB off).1 _ (hc 0 (by omega))
    · intro off x _ hc
      exact (reg_cells4 hB off).2 _ _ _ (hc 0 (by omega)) (hc 1 (by omega)) (hc 2 (by omega))
theorem IsReg.shape {n : Nat} {W : World} {v : Value} {K : Ker} {l : List PV} (h : IsReg n W v K l) : ∃ q j a c, v = .agg #[.int .i64 K.major, .int .i64 K.minor, .slice q K.exps.length j, .slice a l.length c] := by
  obtain ⟨ve, vl, rfl, ⟨q, j, rfl, _, _⟩, ⟨⟨a, c, rfl, _, _⟩, _⟩⟩ := h
  exact ⟨q, j, a, c, rfl⟩

set_option maxHeartbeats 16000000 in
theorem packOf_any (K : Ker) (l : List PV) (v : Value) (w : World) (hreg : IsReg w.heap.size w v K l) (h0 : chkRg K (l.map PV.plc) = 0) :
    Calls Tryz.prog 26 #[v] w fun e w' => (∃ (v' : Value) (l' : List PV), e = .returned (.tuple #[v', .int .i64 (offFrom 0 (l.map PV.plc) : Int)]) ∧ l'.map PV.plc = packFrom 0 (l.map PV.plc) ∧ l'.map (·.mod) = l.map (·.mod) ∧ IsReg w'.heap.size w' v' K l') ∧ Below w.heap.size w w' := by
  have HST : Hid (∀ (l1 : List PV) v W, IsReg W.heap.size W v K l1 → chkRg K (l1.map PV.plc) = 0 → Calls Tryz.prog 25 #[v] W fun e w' => (∃ (v' : Value) (l' : List PV), e = .returned (.tuple #[v', .bool (stepRes (l1.map PV.plc)).2]) ∧ l'.map PV.plc = (stepRes (l1.map PV.plc)).1 ∧ l'.map (·.mod) = l1.map (·.mod) ∧ IsReg w'.heap.size w' v' K l') ∧ Below W.heap.size W w') := fun l1 v W h1 h2 => by
    have h3 := (rg_lens h2).2.2.2
    refine stepOf_any K l1 v W h1 (reg_lens h3).1 fun x hx => ?_
    have := chkMod_exps ((chkReg_zero.1 h3).2.1 x.plc (List.mem_map_of_mem hx))
    exact this.2.1
  have HSN : Hid (∀ L L' : List Plc, chkRg K L = 0 → stepFrom 0 L = some L' → chkRg K L' = 0) := fun L L' h1 h2 => step_right h1 h2
  have hlen : l.length ≤ 255 := (rg_lens h0).2.1
  have hol := off_len (l.map PV.plc) 0
  rw [List.length_map] at hol
  have HOF : Hid (offFrom 0 (l.map PV.plc) ≤ 255) := by show _ ≤ _; omega
  obtain ⟨qe, je, a, cap, rfl⟩ := hreg.shape
  have H0 : Hid (chkRg K (l.map PV.plc) = 0) := h0
  clear hol hlen h0
  have HB1 : Hid (Below w.heap.size w ((w.alloc (.cells #[.int .i64 K.major, .int .i64 K.minor, .slice qe K.exps.length je, .slice a l.length cap] 27)).alloc (.cells #[.int .i64 0, .int .i64 0, .slice none 0 0, .slice none 0 0] 27))) := ((Below.refl _ _).alloc (Nat.le_refl _) _).alloc (by simp) _
  have HR1 : Hid (CellsAt ((w.alloc (.cells #[.int .i64 K.major, .int .i64 K.minor, .slice qe K.exps.length je, .slice a l.length cap] 27)).alloc (.cells #[.int .i64 0, .int .i64 0, .slice none 0 0, .slice none 0 0] 27)) w.heap.size 27 #[.int .i64 K.major, .int .i64 K.minor, .slice qe K.exps.length je, .slice a l.length cap]) := (CellsAt.new _ _ _).kept (World.grownBy_alloc _ _ none) (by simp)
  have HZ1 : Hid (CellsAt ((w.alloc (.cells #[.int .i64 K.major, .int .i64 K.minor, .slice qe K.exps.length je, .slice a l.length cap] 27)).alloc (.cells #[.int .i64 0, .int .i64 0, .slice none 0 0, .slice none 0 0] 27)) (w.heap.size + 1) 27 #[.int .i64 0, .int .i64 0, .slice none 0 0, .slice none 0 0]) := by
    have := CellsAt.new (w.alloc (.cells #[.int .i64 K.major, .int .i64 K.minor, .slice qe K.exps.length je, .slice a l.length cap] 27)) 27 #[.int .i64 0, .int .i64 0, .slice none 0 0, .slice none 0 0]
    rw [World.size_alloc] at this
    exact this
  have HI1 : Hid (IsReg ((w.alloc (.cells #[.int .i64 K.major, .int .i64 K.minor, .slice qe K.exps.length je, .slice a l.length cap] 27)).alloc (.cells #[.int .i64 0, .int .i64 0, .slice none 0 0, .slice none 0 0] 27)).heap.size ((w.alloc (.cells #[.int .i64 K.major, .int .i64 K.minor, .slice qe K.exps.length je, .slice a l.length cap] 27)).alloc (.cells #[.int .i64 0, .int .i64 0, .slice none 0 0, .slice none 0 0] 27)) (.agg #[.int .i64 K.major, .int .i64 K.minor, .slice qe K.exps.length je, .slice a l.length cap]) K l) := (hreg.below HB1.out).more HB1.out.size
  clear hreg
  generalize hlk : K.exps.length = lk at *
  have HLK : Hid (K.exps.length = lk) := hlk
  clear hlk
  go_enter Tryz.func26, Tryz.ntmps26
  go_wp2_with fail
  generalize ((w.alloc (.cells #[.int .i64 K.major, .int .i64 K.minor, .slice qe lk je, .slice a l.length cap] 27)).alloc (.cells #[.int .i64 0, .int .i64 0, .slice none 0 0, .slice none 0 0] 27)) = w1 at *
  go_loopg [4] (offFrom 0 (l.map PV.plc)) (fun gk s4 wr => ∃ (l1 : List PV) (many : Nat) (q : Option Addr) (j : Nat) (b : Option Addr) (c : Nat), s4 = .int .i64 many ∧ Hid (gk = offFrom 0 (l1.map PV.plc)) ∧ Hid (gk + many = offFrom 0 (l.map PV.plc)) ∧ Hid (packFrom 0 (l1.map PV.plc) = packFrom 0 (l.map PV.plc)) ∧ Hid (l1.map (·.mod) = l.map (·.mod)) ∧ Hid (chkRg K (l1.map PV.plc) = 0) ∧ Hid (CellsAt wr w.heap.size 27 #[.int .i64 K.major, .int .i64 K.minor, .slice q lk j, .slice b l1.length c]) ∧ Hid (IsReg wr.heap.size wr (.agg #[.int .i64 K.major, .int .i64 K.minor, .slice q lk j, .slice b l1.length c]) K l1) ∧ Hid (CellsAt wr (w.heap.size + 1) 27 #[.int .i64 0, .int .i64 0, .slice none 0 0, .slice none 0 0]) ∧ Hid (Below w.heap.size w wr))
  case atStart => exact ⟨l, 0, qe, je, a, cap, rfl, (rfl : _ = _), (rfl : _ = _), (rfl : _ = _), (rfl : _ = _), H0, HR1, HI1, HZ1, HB1⟩
  case round =>
    obtain ⟨l1, many, q, j, b, c, rfl, HGK, HGM, HPK, HMM, HC0, HR2, HI2, HZ2, HB2⟩ := hrel
    clear HR1 HI1 HZ1 HB1 H0
    have r0 := CellsAt.cell HR2.out 0
    have r1 := CellsAt.cell HR2.out 1
    have r2 := CellsAt.cell HR2.out 2
    have r3 := CellsAt.cell HR2.out 3
    have rl := CellsAt.lt HR2.out
    simp at r0 r1 r2 r3
    go_wp2_with fail
    refine (HST.out l1 _ wr HI2.out HC0.out).mono ?_
    rintro e w3 ⟨⟨v', l', rfl, hpl, hmm, hi3⟩, b3⟩
    obtain ⟨q', j', b', c', rfl⟩ := hi3.shape
    rw [HLK.out] at hi3 ⊢
    have HI3 : Hid (IsReg w3.heap.size w3 (.agg #[.int .i64 K.major, .int .i64 K.minor, .slice q' lk j', .slice b' l'.length c']) K l') := hi3
    have HB3 : Hid (Below w.heap.size w w3) := HB2.out.trans (b3.mono HB2.out.size)
    have HR3 : Hid (CellsAt w3 w.heap.size 27 #[.int .i64 K.major, .int .i64 K.minor, .slice q lk j, .slice b l1.length c]) := CellsAt.below HR2.out b3 HR2.out.lt
    have HZ3 : Hid (CellsAt w3 (w.heap.size + 1) 27 #[.int .i64 0, .int .i64 0, .slice none 0 0, .slice none 0 0]) := CellsAt.below HZ2.out b3 HZ2.out.lt
    have HI3r : Hid (IsReg w3.heap.size w3 (.agg #[.int .i64 K.major, .int .i64 K.minor, .slice q lk j, .slice b l1.length c]) K l1) := (HI2.out.below b3).more b3.size
    have HM3 : Hid (l'.map (·.mod) = l.map (·.mod)) := hmm.trans HMM.out
    clear b3 hi3 hmm HR2 HZ2 HI2 HB2 r0 r1 r2 r3 rl
    cases hs : stepFrom 0 (l1.map PV.plc) with
    | none =>
      have hr : stepRes (l1.map PV.plc) = (l1.map PV.plc, false) := by unfold stepRes; rw [hs]
      obtain ⟨n1, n2⟩ := step_none hs
      rw [hr]
      have HPL : Hid (l1.map PV.plc = packFrom 0 (l.map PV.plc)) := n1.symm.trans HPK.out
      have HMN : Hid ((many : Int) = (offFrom 0 (l.map PV.plc) : Int)) := by
        have h1 := HGK.out
        have h2 := HGM.out
        show (many : Int) = _
        omega
      clear hs hr n1 n2 hpl HGK HGM HPK HST HSN
      have HW4 : Hid (CellsAt (w3.alloc (.cells #[.int .i64 K.major, .int .i64 K.minor, .slice q' lk j', .slice b' l'.length c'] 27)) w.heap.size 27 #[.int .i64 K.major, .int .i64 K.minor, .slice q lk j, .slice b l1.length c]) := HR3.out.kept (World.grownBy_alloc _ _ none) (by simp)
      have HZ4 : Hid (CellsAt (w3.alloc (.cells #[.int .i64 K.major, .int .i64 K.minor, .slice q' lk j', .slice b' l'.length c'] 27)) (w.heap.size + 1) 27 #[.int .i64 0, .int .i64 0, .slice none 0 0, .slice none 0 0]) := HZ3.out.kept (World.grownBy_alloc _ _ none) (by simp)
      have HB4 : Hid (Below w.heap.size w (w3.alloc (.cells #[.int .i64 K.major, .int .i64 K.minor, .slice q' lk j', .slice b' l'.length c'] 27))) := HB3.out.alloc HB3.out.size _
      have HI4 : Hid (IsReg (w3.alloc (.cells #[.int .i64 K.major, .int .i64 K.minor, .slice q' lk j', .slice b' l'.length c'] 27)).heap.size (w3.alloc (.cells #[.int .i64 K.major, .int .i64 K.minor, .slice q' lk j', .slice b' l'.length c'] 27)) (.agg #[.int .i64 K.major, .int .i64 K.minor, .slice q lk j, .slice b l1.length c]) K l1) := (HI3r.out.below ((Below.refl _ _).alloc (Nat.le_refl _) _)).more (by simp)
      go_upto_region 4 with fail
      generalize (w3.alloc (.cells #[.int .i64 K.major, .int .i64 K.minor, .slice q' lk j', .slice b' l'.length c'] 27)) = w4 at *
      have r0 := CellsAt.cell HW4.out 0
      have r1 := CellsAt.cell HW4.out 1
      have r2 := CellsAt.cell HW4.out 2
      have r3 := CellsAt.cell HW4.out 3
      have rl := CellsAt.lt HW4.out
      have z0 := CellsAt.cell HZ4.out 0
      have z1 := CellsAt.cell HZ4.out 1
      have z2 := CellsAt.cell HZ4.out 2
      have z3 := CellsAt.cell HZ4.out 3
      have f0 := CellsAt.frozen HZ4.out 0
      have f1 := CellsAt.frozen HZ4.out 1
      have f2 := CellsAt.frozen HZ4.out 2
      have f3 := CellsAt.frozen HZ4.out 3
      have zl := CellsAt.lt HZ4.out
      simp at r0 r1 r2 r3 z0 z1 z2 z3
      clear HR3 HZ3 HB3 HI3 HI3r
      go_wp2
      have hZ9 := sets4 HZ4.out (.int .i64 K.major) (.int .i64 K.minor) (.slice q lk j) (.slice b l1.length c)
      have hGz := sets4_grown w4 (w.heap.size + 1) (.int .i64 K.major) (.int .i64 K.minor) (.slice q lk j) (.slice b l1.length c)
      have hB9 := HB4.out.grown hGz HB4.out.size (fun q hq => by obtain rfl := Option.some.inj hq; omega)
      refine bodyPost_ret (results_cell_tmp_row rfl _ _ _ _ _ _ _ rfl hZ9 Tryz.underlying27 rfl (by kernel_rfl)) rfl ?_
      rw [← HMN.out]
      exact ⟨⟨_, l1, rfl, HPL.out, HMM.out, (HI4.out.apart4 hGz (Nat.le_refl _) HZ4.out).more hGz.size⟩, hB9⟩
    | some L' =>
      have hr : stepRes (l1.map PV.plc) = (L', true) := by unfold stepRes; rw [hs]
      obtain ⟨n1, n2, _⟩ := step_some hs
      rw [hr] at hpl ⊢
      dsimp only at hpl
      have HR5 : Hid (chkRg K (l'.map PV.plc) = 0) := by
        show chkRg _ _ = 0
        rw [hpl]
        exact HSN.out _ _ HC0.out hs
      have HPL : Hid (packFrom 0 (l'.map PV.plc) = packFrom 0 (l.map PV.plc)) := by
        show packFrom _ _ = _
        rw [hpl, n1]
        exact HPK.out
      have HO2 : Hid (offFrom 0 (l1.map PV.plc) = offFrom 0 (l'.map PV.plc) + 1) := by
        show _ = _
        rw [hpl]
        exact n2
      have hmb : many ≤ 255 := by
        have h2 := HGM.out
        have h3 := HOF.out
        omega
      clear hs hr n1 n2 hpl HPK HI3r HST HSN
      have HW4 : Hid (CellsAt (w3.alloc (.cells #[.int .i64 K.major, .int .i64 K.minor, .slice q' lk j', .slice b' l'.length c'] 27)) w.heap.size 27 #[.int .i64 K.major, .int .i64 K.minor, .slice q lk j, .slice b l1.length c]) := HR3.out.kept (World.grownBy_alloc _ _ none) (by simp)
      have HZ4 : Hid (CellsAt (w3.alloc (.cells #[.int .i64 K.major, .int .i64 K.minor, .slice q' lk j', .slice b' l'.length c'] 27)) (w.heap.size + 1) 27 #[.int .i64 0, .int .i64 0, .slice none 0 0, .slice none 0 0]) := HZ3.out.kept (World.grownBy_alloc _ _ none) (by simp)
      have HB4 : Hid (Below w.heap.size w (w3.alloc (.cells #[.int .i64 K.major, .int .i64 K.minor, .slice q' lk j', .slice b' l'.length c'] 27))) := HB3.out.alloc HB3.out.size _
      have HX4 : Hid (CellsAt (w3.alloc (.cells #[.int .i64 K.major, .int .i64 K.minor, .slice q' lk j', .slice b' l'.length c'] 27)) w3.heap.size 27 #[.int .i64 K.major, .int .i64 K.minor, .slice q' lk j', .slice b' l'.length c']) := CellsAt.new _ _ _
      have HI4 : Hid (IsReg (w3.alloc (.cells #[.int .i64 K.major, .int .i64 K.minor, .slice q' lk j', .slice b' l'.length c'] 27)).heap.size (w3.alloc (.cells #[.int .i64 K.major, .int .i64 K.minor, .slice q' lk j', .slice b' l'.length c'] 27)) (.agg #[.int .i64 K.major, .int .i64 K.minor, .slice q' lk j', .slice b' l'.length c']) K l') := (HI3.out.below ((Below.refl _ _).alloc (Nat.le_refl _) _)).more (by simp)
      have HLT : Hid (w.heap.size + 1 < w3.heap.size) := HZ3.out.lt
      go_upto_region 5 with fail
      generalize (w3.alloc (.cells #[.int .i64 K.major, .int .i64 K.minor, .slice q' lk j', .slice b' l'.length c'] 27)) = w4 at *
      generalize w3.heap.size = g5 at *
      have r0 := CellsAt.cell HX4.out 0
      have r1 := CellsAt.cell HX4.out 1
      have r2 := CellsAt.cell HX4.out 2
      have r3 := CellsAt.cell HX4.out 3
      have rl := CellsAt.lt HX4.out
      have z0 := CellsAt.cell HW4.out 0
      have z1 := CellsAt.cell HW4.out 1
      have z2 := CellsAt.cell HW4.out 2
      have z3 := CellsAt.cell HW4.out 3
      have f0 := CellsAt.frozen HW4.out 0
      have f1 := CellsAt.frozen HW4.out 1
      have f2 := CellsAt.frozen HW4.out 2
      have f3 := CellsAt.frozen HW4.out 3
      have zl := CellsAt.lt HW4.out
      simp at r0 r1 r2 r3 z0 z1 z2 z3
      clear HR3 HZ3 HB3 HI3
      go_wp2_with fail
      have hW9 := sets4 HW4.out (.int .i64 K.major) (.int .i64 K.minor) (.slice q' lk j') (.slice b' l'.length c')
      have hG9 := sets4_grown w4 w.heap.size (.int .i64 K.major) (.int .i64 K.minor) (.slice q' lk j') (.slice b' l'.length c')
      have hB9 := HB4.out.grown hG9 HB4.out.size (fun q hq => by obtain rfl := Option.some.inj hq; omega)
      have hZ9 := HZ4.out.kept hG9 (by intro e; have := Option.some.inj e; omega)
      have hI9 := (HI4.out.apart4 hG9 (Nat.le_refl _) HW4.out).more hG9.size
      clear r0 r1 r2 r3 z0 z1 z2 z3 f0 f1 f2 f3
      go_roundg (offFrom 0 (l'.map PV.plc))
      case measure =>
        have h1 := HGK.out
        have h2 := HO2.out
        omega
      case rel => exact ⟨l', many + 1, q', j', b', c', (by rw [show ((many + 1 : Nat) : Int) = (many : Int) + 1 by omega]), (rfl : _ = _), (by have h1 := HGK.out; have h2 := HO2.out; have h3 := HGM.out; show _ = _; omega), HPL, HM3, HR5, hW9, hI9, hZ9, hB9⟩

end Go.Proofs.YthmohjgdcjafkaeGreat
