/- Texts that are laid together. -/
import Derived.Test.YtaklbnabgcglhacMrgF
import Derived.Test.YtaklbnabgcglhacMrgQ
import Derived.Test.YtaklbnabgcglhacMrgO
import Derived.Test.YtaklbnabgcglhacMrgL
import Derived.Test.YtaklbnabgcglhacMrgP
import Derived.Deep.QuietTactic
import Derived.BigQuiet

/- Placed modules and imports that came in. -/
namespace Go.Proofs.Ytaklbnabgcglhac
open Go.ChangeShapes Go.WideShapes Go.ChangeAt Go.RowKit Go.PlainAid Go.Deep

set_option maxRecDepth 100000

theorem list3 {α : Type} {l : List α} (h : l.length = 3) : ∃ a b c, l = [a, b, c] := by
  match l, h with
  | [a, b, c], _ => exact ⟨a, b, c, rfl⟩
theorem list8 {α : Type} {l : List α} (h : l.length = 8) : ∃ a b c d e f g k, l = [a, b, c, d, e, f, g, k] := by
  match l, h with
  | [a, b, c, d, e, f, g, k], _ => exact ⟨a, b, c, d, e, f, g, k, rfl⟩

section
variable {H : Type} {enc : TypeId × Value → H} {W : World} {spare : Nat → Bool} {held : Bool}

theorem mod_of_trod (n : Nat) (c0 c1 c2 c3 c4 c5 c6 : Value) (z : DataW H × List MemPlace) (h : DataW.trod enc Try.prog W 0 spare held n 36 [c0, c1, c2, c3, c4, c5, c6] = some z) :
    ∃ M : Mod, c0 = .string M.name ∧ c1 = .int .i64 M.major ∧ c2 = .int .i64 M.minor ∧ c3 = .string M.text ∧ RowOf 2 Exp.cell W.heap.size W c4 M.exps ∧ RowOf 4 Imp.cell W.heap.size W c5 M.imps ∧ RowOf 4 Pat.cell W.heap.size W c6 M.pats ∧ M.fits := by
  obtain ⟨xs, m, _, _, _, hlen, hf⟩ := DataW.trod_struct Try.underlying36 h
  obtain ⟨x0, x1, x2, x3, x4, x5, x6, rfl⟩ := list7 hlen
  have f0 := hf 0 _ rfl
  have f1 := hf 1 _ rfl
  have f2 := hf 2 _ rfl
  have f3 := hf 3 _ rfl
  have f4 := hf 4 _ rfl
  have f5 := hf 5 _ rfl
  have f6 := hf 6 _ rfl
  obtain ⟨N, rfl, hN⟩ := str_of_trod f0
  obtain ⟨a, rfl⟩ := int_of_trod f1
  obtain ⟨b, rfl⟩ := int_of_trod f2
  obtain ⟨T, rfl, hT⟩ := str_of_trod f3
  have _ : Inhabited Exp := ⟨⟨⟨#[]⟩, 0⟩⟩
  have _ : Inhabited Imp := ⟨⟨⟨#[]⟩, ⟨#[]⟩, 0, 0⟩⟩
  have _ : Inhabited Pat := ⟨⟨0, 0, 0, 0⟩⟩
  obtain ⟨es, hE, gE⟩ := row_of_trod (cells := Exp.cell) Try.underlying32 (sz := 2) (by kernel_rfl) (by decide) exp_of_trod f4
  obtain ⟨is, hI, gI⟩ := row_of_trod (cells := Imp.cell) Try.underlying33 (sz := 4) (by kernel_rfl) (by decide) imp_of_trod f5
  obtain ⟨ps, hP, _⟩ := row_of_trod (cells := Pat.cell) Try.underlying34 (sz := 4) (by kernel_rfl) (by decide) pat_of_trod f6
  exact ⟨⟨N, a, b, T, es, is, ps⟩, rfl, rfl, rfl, rfl, hE, hI, hP, hN, hT, gE, gI⟩

theorem plc_of_trod (n : Nat) (cs : List Value) (z : DataW H × List MemPlace) (hl : cs.length = 8) (h : DataW.trod enc Try.prog W 0 spare held n 38 cs = some z) : ∃ x : PV, (∀ i, i < 8 → cs[i]? = some (PV.cell x i)) ∧ (PlcAt W.heap.size W x ∧ x.mod.fits) := by
  obtain ⟨xs, m, _, _, _, hlen, hf⟩ := DataW.trod_struct Try.underlying38 h
  obtain ⟨x0, x1, rfl⟩ := list2 hlen
  obtain ⟨c0, c1, c2, c3, c4, c5, c6, c7, rfl⟩ := list8 hl
  have h7 : Try.prog.cellsOf 36 = 7 := by kernel_rfl
  have f0 : DataW.trod enc Try.prog W 0 spare held m 36 (([c0, c1, c2, c3, c4, c5, c6, c7].drop 0).take (Try.prog.cellsOf 36)) = some x0 := hf 0 _ rfl
  rw [h7] at f0
  obtain ⟨M, rfl, rfl, rfl, rfl, hE, hI, hP, hF⟩ := mod_of_trod m c0 c1 c2 c3 c4 c5 c6 x0 f0
  obtain ⟨k, rfl⟩ := int_of_trod (hf 1 _ rfl)
  refine ⟨⟨M, c4, c5, c6, k⟩, fun i hi => ?_, ⟨hE, hI, hP⟩, hF⟩
  have : i = 0 ∨ i = 1 ∨ i = 2 ∨ i = 3 ∨ i = 4 ∨ i = 5 ∨ i = 6 ∨ i = 7 := by omega
  rcases this with rfl | rfl | rfl | rfl | rfl | rfl | rfl | rfl <;> rfl

theorem open_import {v : Value} {d : DataW H} {ps : List MemPlace} {base : Nat} (hv : Value.okWide Try.prog W .any base 71 v) (h : DataW.Trod enc Try.prog W 0 spare held 71 v d ps) : ∃ i : Imp, v = .agg #[.string i.mod, .string i.name, .int .i64 i.major, .int .i64 i.minor] ∧ i.fits := by
  obtain ⟨cs, rfl, hcs⟩ := okWide_struct Try.underlying71 hv
  obtain ⟨fuel, hf⟩ := h
  obtain ⟨xs, m, _, _, hl, hlen, hf⟩ := DataW.trod_struct Try.underlying71 hf
  have hc4 : Try.prog.cellsOf 71 = 4 := by kernel_rfl
  obtain ⟨x0, x1, x2, x3, rfl⟩ := list4 hlen
  rw [hc4] at hl
  obtain ⟨c0, c1, c2, c3, hcl⟩ := list4 hl
  have hcs' : cs.toList = [c0, c1, c2, c3] := hcl
  have hcA : cs = #[c0, c1, c2, c3] := by rw [← Array.toArray_toList (xs := cs), hcs']
  subst hcA
  obtain ⟨s, rfl, hs⟩ := str_of_trod (hf 0 _ rfl)
  obtain ⟨t, rfl, ht⟩ := str_of_trod (hf 1 _ rfl)
  obtain ⟨a, rfl⟩ := int_of_trod (hf 2 _ rfl)
  obtain ⟨b, rfl⟩ := int_of_trod (hf 3 _ rfl)
  exact ⟨⟨s, t, a, b⟩, rfl, hs, ht⟩

theorem open_plc {v : Value} {d : DataW H} {ps : List MemPlace} {base : Nat} (hv : Value.okWide Try.prog W .any base 38 v) (h : DataW.Trod enc Try.prog W 0 spare held 38 v d ps) : ∃ x : PV, v = x.val ∧ PlcAt W.heap.size W x ∧ x.mod.fits := by
  obtain ⟨cs, rfl, hcs⟩ := okWide_struct Try.underlying38 hv
  obtain ⟨fuel, hf⟩ := h
  have hl := (DataW.trod_struct Try.underlying38 hf)
  obtain ⟨_, _, _, _, hl, _, _⟩ := hl
  have hc8 : Try.prog.cellsOf 38 = 8 := by kernel_rfl
  rw [hc8] at hl
  obtain ⟨x, hx, g1, g2⟩ := plc_of_trod _ _ _ hl hf
  obtain ⟨c0, c1, c2, c3, c4, c5, c6, c7, hcl⟩ := list8 hl
  have hcs' : cs.toList = [c0, c1, c2, c3, c4, c5, c6, c7] := hcl
  have hcA : cs = #[c0, c1, c2, c3, c4, c5, c6, c7] := by rw [← Array.toArray_toList (xs := cs), hcs']
  subst hcA
  have e0 : c0 = _ := Option.some.inj (hx 0 (by omega))
  have e1 : c1 = _ := Option.some.inj (hx 1 (by omega))
  have e2 : c2 = _ := Option.some.inj (hx 2 (by omega))
  have e3 : c3 = _ := Option.some.inj (hx 3 (by omega))
  have e4 : c4 = _ := Option.some.inj (hx 4 (by omega))
  have e5 : c5 = _ := Option.some.inj (hx 5 (by omega))
  have e6 : c6 = _ := Option.some.inj (hx 6 (by omega))
  have e7 : c7 = _ := Option.some.inj (hx 7 (by omega))
  subst e0 e1 e2 e3 e4 e5 e6 e7
  exact ⟨x, rfl, g1, g2⟩

theorem open_placed {v : Value} {d : DataW H} {ps : List MemPlace} {base : Nat} (hv : Value.okWide Try.prog W .any base 22 v) (h : DataW.Trod enc Try.prog W 0 spare held 22 v d ps) : ∃ l : List PV, IsPlcs W.heap.size W v l ∧ ∀ x ∈ l, x.mod.fits := by
  obtain ⟨a, ln, cp, rfl⟩ := okWide_slice Try.underlying22 hv
  obtain ⟨fuel, hf⟩ := h
  have _ : Inhabited PV := ⟨⟨⟨⟨#[]⟩, 0, 0, ⟨#[]⟩, [], [], []⟩, .slice none 0 0, .slice none 0 0, .slice none 0 0, 0⟩⟩
  obtain ⟨l, hL, gL⟩ := row_of_trod (α := PV) (cells := PV.cell) (good := fun x => PlcAt W.heap.size W x ∧ x.mod.fits) (c := .slice a ln cp) Try.underlying22 (sz := 8) (by kernel_rfl) (by decide) plc_of_trod hf
  exact ⟨l, ⟨hL, fun x hx => (gL x hx).1⟩, fun x hx => (gL x hx).2⟩
end

end Go.Proofs.Ytaklbnabgcglhac

/- Placed modules without one of them: a row that is made of what is ahead of it and what is behind it. -/
namespace Go.Proofs.Ytaklbnabgcglhac
open Go.ChangeShapes Go.WideShapes Go.ChangeAt Go.RowKit Go.PlainAid Go.Deep

set_option maxRecDepth 100000

theorem open_cap {W : World} {v : Value} {base : Nat} (hv : Value.okWide Try.prog W .any base 22 v) : ∀ a n c, v = .slice a n c → n ≤ c ∧ c ≤ 9223372036854775807 := by
  intro a n c hc
  subst hc
  have h := hv
  simp only [Value.okWide, Try.underlying22, Cell.okWide] at h
  cases a with
  | none =>
    cases n with
    | zero =>
      cases c with
      | zero => omega
      | succ c => simp [Cell.ok, Try.underlying22] at h
    | succ n => simp [Cell.ok, Try.underlying22] at h
  | some a =>
    simp only [Cell.ok, Try.underlying22] at h
    exact ⟨h.1, by have := h.2.1; have e : IntKind.i64.max = 9223372036854775807 := rfl; omega⟩

/-- append to a row of one's own, of whatever number of elements, none too. -/
theorem step_append_may {P : Program} (w : World) {ops : Array Oper} {o : Oper} {a : Act} {K : Act → World → Prop} {Q : Exit → Act → World → Prop} {E : Prop} (hgd : o.guard = none) (s x : Operand) (t : TypeId)
    (ho : o.op = .call { callee := .builtin .append, args := #[s, x], argTypes := #[t, t] })
    (base : Nat) (e : TypeId) (i : TypeInfo) (z : Value) (size bytes : Nat) (ht : P.underlying t = some (.slice e)) (hi : P.info? e = some i) (hz : i.zero = some z)
    (hsize : i.size = size) (hby : i.bytes = bytes) (hzs : z.cells.size = size) (hsz : 0 < size)
    (v : Value) (n : Nat) (xs : List Value) (hs : a.eval s = v) (hown : w.ownsRow base e size v n xs)
    (ad : Addr) (m c : Nat) (news : List Value) (hx : a.eval x = .slice (some ad) m c) (hl : news.length = m * size) (hnews : ∀ j u, news[j]? = some u → w.cell? (ad.add j) = some u) (h1 : ∀ u ∈ news, u.oneCell' = true)
    (h63 : n + m ≤ maxLen) (hbytes : (n + m) * bytes ≤ 140737488355328) (hbase : base ≤ w.heap.size)
    (h : ∀ v' w', w'.ownsRow base e size v' (n + m) (xs ++ news) → w.grownBy w' v.ownBlock → K (a.put o.dst v') w') :
    if Region.wanted o (yielded ops a.tmps) = true then Oper.wp P o a w K Q else E := by
  have hw : Region.wanted o (yielded ops a.tmps) = true := by simp [Region.wanted, hgd]
  rw [if_pos hw]
  obtain ⟨v', w', hr, h2, h3, _, _⟩ := run_append_own_at (P := P) w base t o.type e i z size bytes ht hi hz hsize hby hzs hsz v n xs hown ad m c news hl hnews h1 h63 hbytes hbase
  unfold Oper.wp execOp
  simp only [ho, resolve, invoke, builtin, Sem.run_bind, Sem.run_pure, Result.andThen_ok, List.map_toArray, List.map_cons, List.map_nil, hs, hx, hr]
  exact h v' w' h2 h3

end Go.Proofs.Ytaklbnabgcglhac

/- The walk of the law GraphLess. -/
namespace Go.Proofs.Ytaklbnabgcglhac.graphLess
open Go.RowKit Go.PlainAid

set_option maxRecDepth 100000

theorem less_is {α : Type} (l : List α) (k : Nat) : l.take k ++ l.drop (k + 1) = l.eraseIdx k := (List.eraseIdx_eq_take_drop_succ l k).symm
theorem less_map (l : List PV) (k : Nat) : (l.take k ++ l.drop (k + 1)).map PV.plc = (l.map PV.plc).eraseIdx k := by rw [less_is, erase_map]
theorem less_at (l : List PV) {k : Nat} {x : PV} (hx : l[k]? = some x) : (l.map PV.plc)[k]? = some x.plc := by rw [List.getElem?_map, hx]; rfl
theorem less_data (l : List PV) (k : Nat) (x : PV) (hx : l[k]? = some x) (h0 : comeErr (l.map PV.plc) x.mod.name = 0) (hu : ComeRes nxUse (l.map PV.plc) x.mod.name []) :
    (∀ (i : Nat) (q : PV), (l.take k ++ l.drop (k + 1))[i]? = some q → ∀ xs ys, ComeRes nxNeed (l.map PV.plc) q.mod.name xs → ComeRes nxNeed ((l.map PV.plc).eraseIdx k) q.mod.name ys → comeErr (l.map PV.plc) q.mod.name = 0 ∧ comeErr ((l.map PV.plc).eraseIdx k) q.mod.name = 0 ∧ xs = ys) ∧
    (ordOf (l.map PV.plc)).2 = (ordOf ((l.map PV.plc).eraseIdx k)).2 ∧ ((ordOf (l.map PV.plc)).2 = 0 → (ordOf ((l.map PV.plc).eraseIdx k)).1 = (ordOf (l.map PV.plc)).1.filter (notN x.mod.name) ∧ (ordOf (l.map PV.plc)).1.length ≤ 8) := by
  have hp := less_at l hx
  refine ⟨fun i q hq xs ys h1 h2 => ?_, (less_order (p := x.plc) hp h0 hu).1, fun h => ⟨(less_order (p := x.plc) hp h0 hu).2 h, ?_⟩⟩
  · refine less_needs (p := x.plc) (q := q.plc) hp h0 hu (i := i) ?_ h1 h2
    rw [← less_map, List.getElem?_map, hq]
    rfl
  · rw [(ord_facts h).1]
    exact (chkGraph_zero.1 (comeErr_zero h0)).1
theorem notN_walk (n y : ByteArray) : notN n y = (y.toList != n.toList) := by
  unfold notN
  rw [bne, toList_beq2]

set_option maxHeartbeats 8000000 in
theorem walk (l : List PV) (v : Value) (n : Int) (w : World) (hrow : IsPlcs w.heap.size w v l) (hfit : ∀ x ∈ l, x.mod.fits) (_ : (Lit.int .i64 n).wf = true) (hcap : ∀ a n c, v = .slice a n c → n ≤ c ∧ c ≤ 9223372036854775807) :
    Calls Try.prog 5 #[v, .int .i64 n] w fun e w' => e = .returned (.bool true) ∧ Below w.heap.size w w' := by
  have HU : Hid (∀ W x, Below w.heap.size w W → Calls Try.prog 11 #[v, .string x] W fun e w' => (∃ r ss, e = .returned (.tuple #[r, .int .i64 (comeErr (l.map PV.plc) x)]) ∧ RowOf 1 strCell w'.heap.size w' r ss ∧ ComeRes nxUse (l.map PV.plc) x ss) ∧ Below W.heap.size W w') := fun W x hb => users_any l v x W ((hrow.below hb).more hb.size) hfit
  have HNL : Hid (∀ W x, Below w.heap.size w W → Calls Try.prog 10 #[v, .string x] W fun e w' => (∃ r ss, e = .returned (.tuple #[r, .int .i64 (comeErr (l.map PV.plc) x)]) ∧ RowOf 1 strCell w'.heap.size w' r ss ∧ ComeRes nxNeed (l.map PV.plc) x ss) ∧ Below W.heap.size W w') := fun W x hb => needs_any l v x W ((hrow.below hb).more hb.size) hfit
  have HOL : Hid (∀ W, Below w.heap.size w W → Calls Try.prog 13 #[v] W fun e w' => (∃ r, e = .returned (.tuple #[r, .int .i64 (ordOf (l.map PV.plc)).2]) ∧ RowOf 1 strCell w'.heap.size w' r (ordOf (l.map PV.plc)).1 ∧ CapOk r) ∧ Below W.heap.size W w') := fun W hb => order_any l v W ((hrow.below hb).more hb.size) hfit
  have HSUB : ∀ k, ∀ x ∈ l.take k ++ l.drop (k + 1), x ∈ l := fun k x hx => by
    rcases List.mem_append.1 hx with h | h
    · exact List.mem_of_mem_take h
    · exact List.mem_of_mem_drop h
  have HNS : Hid (∀ (k : Nat) W v' x, Below w.heap.size w W → RowOf 8 PV.cell W.heap.size W v' (l.take k ++ l.drop (k + 1)) → Calls Try.prog 10 #[v', .string x] W fun e w' => (∃ r ss, e = .returned (.tuple #[r, .int .i64 (comeErr ((l.map PV.plc).eraseIdx k) x)]) ∧ RowOf 1 strCell w'.heap.size w' r ss ∧ ComeRes nxNeed ((l.map PV.plc).eraseIdx k) x ss) ∧ Below W.heap.size W w') := fun k W v' x hb hr => by
    have := needs_any _ v' x W ⟨hr, fun y hy => ((hrow.2 y (HSUB k y hy)).below hb).more hb.size⟩ (fun y hy => hfit y (HSUB k y hy))
    rw [less_map] at this
    exact this
  have HOS : Hid (∀ (k : Nat) W v', Below w.heap.size w W → RowOf 8 PV.cell W.heap.size W v' (l.take k ++ l.drop (k + 1)) → Calls Try.prog 13 #[v'] W fun e w' => (∃ r, e = .returned (.tuple #[r, .int .i64 (ordOf ((l.map PV.plc).eraseIdx k)).2]) ∧ RowOf 1 strCell w'.heap.size w' r (ordOf ((l.map PV.plc).eraseIdx k)).1 ∧ CapOk r) ∧ Below W.heap.size W w') := fun k W v' hb hr => by
    have := order_any _ v' W ⟨hr, fun y hy => ((hrow.2 y (HSUB k y hy)).below hb).more hb.size⟩ (fun y hy => hfit y (HSUB k y hy))
    rw [less_map] at this
    exact this
  have HD := less_data l
  have HDD : Hid (∀ (k : Nat) (x : PV), l[k]? = some x → comeErr (l.map PV.plc) x.mod.name = 0 → ComeRes nxUse (l.map PV.plc) x.mod.name [] → _) := HD
  have HE : Hid (∀ x ss, ComeRes nxUse (l.map PV.plc) x ss → comeErr (l.map PV.plc) x ≠ 0 → ss = []) := fun x ss h he => h.err he
  have H8 : Hid (∀ x, comeErr (l.map PV.plc) x = 0 → l.length ≤ 8) := fun x h => by
    have := (chkGraph_zero.1 (comeErr_zero h)).1
    simpa using this
  have hat := hrow.2
  obtain ⟨⟨va, cap, rfl, hmax, hcells⟩, _⟩ := hrow
  obtain ⟨hc1, hc2⟩ := hcap _ _ _ rfl
  obtain ⟨ii, hii, hz0, hz1, hz2⟩ := infoPlc_parts
  obtain ⟨is', hiS, hs0, hs1, hs2⟩ := infoStr_parts
  clear hfit hcap HSUB HD
  generalize comeErr (l.map PV.plc) = CE at *
  generalize ComeRes nxUse (l.map PV.plc) = CU at *
  generalize ComeRes nxNeed (l.map PV.plc) = CN at *
  generalize ordOf (l.map PV.plc) = OL at *
  go_enter Try.func5, Try.ntmps5
  go_wp2_with fail
  refine (graphBegun_any _).mono ?_
  rintro e w1 ⟨rfl, B1⟩
  by_cases hn0 : n < 0
  · clear HU HNL HOL HNS HOS HDD HE H8 hat hcells
    go_wp2
    go_ret
    exact ⟨rfl, B1⟩
  by_cases hn1 : (l.length : Int) ≤ n
  · clear HU HNL HOL HNS HOS HDD HE H8 hat hcells
    go_wp2
    go_ret
    exact ⟨rfl, B1⟩
  obtain ⟨k, rfl⟩ : ∃ k : Nat, n = (k : Int) := ⟨n.toNat, by omega⟩
  have hlt : k < l.length := by omega
  clear hn0 hn1
  obtain ⟨x, hx⟩ : ∃ x, l[k]? = some x := ⟨_, List.getElem?_eq_getElem hlt⟩
  rcases hcells with h | ⟨b, off, rfl, hbn, hcells⟩
  · subst h; simp at hlt
  have cxw := hcells k _ hx 0 (by omega)
  dsimp only [PV.cell] at cxw
  rw [Nat.add_zero] at cxw
  have cx1 := (B1.cell (p := ⟨b, off + k * 8, none⟩) hbn).trans cxw
  have HUX : Hid (∀ W, Below w.heap.size w W → Calls Try.prog 11 #[.slice (some ⟨b, off, none⟩) l.length cap, .string x.mod.name] W fun e w' => (∃ r ss, e = .returned (.tuple #[r, .int .i64 (CE x.mod.name)]) ∧ RowOf 1 strCell w'.heap.size w' r ss ∧ CU x.mod.name ss) ∧ Below W.heap.size W w') := fun W hb => HU.out W x.mod.name hb
  clear HU
  have hkl : (k : Int) < (l.length : Int) := by omega
  have hk0 : ¬ (k : Int) < 0 := by omega
  go_wp2_with fail
  refine (HUX.out _ B1).mono ?_
  rintro e wr ⟨⟨r2, us, rfl, R2, hu⟩, b2⟩
  have BQ := B1.trans (b2.mono B1.size)
  obtain ⟨a2, c2, rfl, _⟩ := id R2
  clear HUX b2 cx1 R2
  by_cases h0 : CE x.mod.name = 0
  · cases us with
    | cons u us =>
      clear HNL HOL HNS HOS HDD HE H8 hat hcells
      have h0' : (CE x.mod.name != 0) = false := by rw [h0]; rfl
      have h0'' : (CE x.mod.name == 0) = true := by rw [h0]; rfl
      clear h0
      generalize CE x.mod.name = ce at *
      go_wp2
      go_ret
      exact ⟨rfl, BQ⟩
    | nil =>
      have h8 := H8.out _ h0
      have hall := HDD.out k x hx h0 hu
      obtain ⟨hneed, hord, hwant⟩ := hall
      have HNEED : Hid (∀ (i : Nat) (q : PV), (l.take k ++ l.drop (k + 1))[i]? = some q → ∀ xs ys, CN q.mod.name xs → ComeRes nxNeed ((l.map PV.plc).eraseIdx k) q.mod.name ys → CE q.mod.name = 0 ∧ comeErr ((l.map PV.plc).eraseIdx k) q.mod.name = 0 ∧ xs = ys) := hneed
      have HORD : Hid (OL.2 = (ordOf ((l.map PV.plc).eraseIdx k)).2) := hord
      have HWANT : Hid (OL.2 = 0 → (ordOf ((l.map PV.plc).eraseIdx k)).1 = OL.1.filter (notN x.mod.name) ∧ OL.1.length ≤ 8) := hwant
      have HNS2 : Hid (∀ W v' x, Below w.heap.size w W → RowOf 8 PV.cell W.heap.size W v' (l.take k ++ l.drop (k + 1)) → Calls Try.prog 10 #[v', .string x] W fun e w' => (∃ r ss, e = .returned (.tuple #[r, .int .i64 (comeErr ((l.map PV.plc).eraseIdx k) x)]) ∧ RowOf 1 strCell w'.heap.size w' r ss ∧ ComeRes nxNeed ((l.map PV.plc).eraseIdx k) x ss) ∧ Below W.heap.size W w') := HNS.out k
      have HOS2 : Hid (∀ W v', Below w.heap.size w W → RowOf 8 PV.cell W.heap.size W v' (l.take k ++ l.drop (k + 1)) → Calls Try.prog 13 #[v'] W fun e w' => (∃ r, e = .returned (.tuple #[r, .int .i64 (ordOf ((l.map PV.plc).eraseIdx k)).2]) ∧ RowOf 1 strCell w'.heap.size w' r (ordOf ((l.map PV.plc).eraseIdx k)).1 ∧ CapOk r) ∧ Below W.heap.size W w') := HOS.out k
      clear HDD HNS HOS hneed hord hwant H8 HE hu
      generalize comeErr ((l.map PV.plc).eraseIdx k) = CE2 at *
      generalize ComeRes nxNeed ((l.map PV.plc).eraseIdx k) = CN2 at *
      generalize ordOf ((l.map PV.plc).eraseIdx k) = OS at *
      rw [h0]
      clear h0 hx
      generalize x.mod.name = xn at *
      go_wp2_with fail
      obtain ⟨k1, hk1⟩ : ∃ k1, k1 = k + 1 := ⟨_, rfl⟩
      obtain ⟨o2, ho2, ho3⟩ : ∃ o2, (if cap = k1 then some (⟨b, off, none⟩ : Addr) else some ⟨b, off + k1 * 8, none⟩) = some ⟨b, o2, none⟩ ∧ (k1 < l.length → o2 = off + k1 * 8) := by
        by_cases h : cap = k1
        · exact ⟨off, by rw [if_pos h], fun h' => by omega⟩
        · exact ⟨off + k1 * 8, by rw [if_neg h], fun _ => rfl⟩
      have HK1 : Hid (k1 = k + 1) := hk1
      have HO3 : Hid (k1 < l.length → o2 = off + k1 * 8) := ho3
      have q0 : IntKind.i64.wrap ((k : Int) + 1) = (k1 : Int) := by rw [i64_is]; unfold wrap64; omega
      have q1 : k ≤ cap := by omega
      have q2 : k1 ≤ cap := by omega
      have q3 : l.length ≤ cap := hc1
      have q4 : k1 ≤ l.length := by omega
      clear hk1 ho3
      refine wp_region_noPanic ?_
      refine wp_region_L (S := fun _ => True) (x := 10) (by kernel_rfl) ?_
      have Bw5 : Below w.heap.size w wr.drew := BQ.drew
      generalize wr.drew = w5 at Bw5 ⊢
      have Ew5 : Below w5.heap.size w5 w5 := Below.refl _ _
      refine wpL_take 1 54 (.slice (some ⟨b, off, none⟩) l.length cap) rfl (by kernel_rfl) (fun _ _ _ h => h) trivial rfl rfl (fun w' hSw => by clear hSw; go_simp) ?_
      simp only [List.setIfInBounds_toArray, List.set_cons_zero, List.set_cons_succ]
      refine wpL_take 2 55 (.int .i64 k) rfl (by kernel_rfl) (fun _ _ _ h => h) trivial rfl rfl (fun w' hSw => by clear hSw; go_simp) ?_
      simp only [List.setIfInBounds_toArray, List.set_cons_zero, List.set_cons_succ]
      refine wpL_take 3 56 (.slice (some ⟨b, off, none⟩) k cap) rfl (by kernel_rfl) (fun _ _ _ h => h) trivial rfl rfl (fun w' hSw => by clear hSw; go_simp) ?_
      simp only [List.setIfInBounds_toArray, List.set_cons_zero, List.set_cons_succ]
      refine wpL_take 5 58 (.slice (some ⟨b, off, none⟩) l.length cap) rfl (by kernel_rfl) (fun _ _ _ h => h) trivial rfl rfl (fun w' hSw => by clear hSw; go_simp) ?_
      simp only [List.setIfInBounds_toArray, List.set_cons_zero, List.set_cons_succ]
      refine wpL_take 6 59 (.int .i64 k) rfl (by kernel_rfl) (fun _ _ _ h => h) trivial rfl rfl (fun w' hSw => by clear hSw; go_simp) ?_
      simp only [List.setIfInBounds_toArray, List.set_cons_zero, List.set_cons_succ]
      refine wpL_take 7 60 (.int .i64 k1) rfl (by kernel_rfl) (fun _ _ _ h => h) trivial rfl rfl (fun w' hSw => by clear hSw; go_simp) ?_
      simp only [List.setIfInBounds_toArray, List.set_cons_zero, List.set_cons_succ]
      refine wpL_take 8 61 (.slice (some ⟨b, o2, none⟩) (l.length - k1) (cap - k1)) rfl (by kernel_rfl) (fun _ _ _ h => h) trivial rfl rfl (fun w' hSw => by clear hSw; go_simp) ?_
      simp only [List.setIfInBounds_toArray, List.set_cons_zero, List.set_cons_succ]
      refine wpL_step (i := 0) rfl (by kernel_rfl) (fun K hK => ?_)
      go_simp
      have Bu6 : Below w.heap.size w (w5.alloc (.cells #[] 38)) := Bw5.alloc Bw5.size _
      have Eu6 : Below w5.heap.size w5 (w5.alloc (.cells #[] 38)) := Ew5.alloc Ew5.size _
      have O6 : (w5.alloc (.cells #[] 38)).ownsRow w5.heap.size 38 8 (.slice (some ⟨w5.heap.size, 0, none⟩) 0 0) 0 [] := own_empty Ew5.size
      refine hK.out _ _ trivial (fun _ => ?_)
      clear hK K
      generalize w5.alloc (.cells #[] 38) = u6 at Bu6 Eu6 O6 ⊢
      refine wpL_step (i := 4) rfl (by kernel_rfl) (fun K hK => ?_)
      have hlk : (l.take k).length = k := by rw [List.length_take]; omega
      have hcl : ∀ (j : Nat) (y : PV), (l.take k)[j]? = some y → ∀ i, i < 8 → u6.cell? ⟨b, off + j * 8 + i, none⟩ = some (PV.cell y i) := by
        intro j y hj i hi
        have hj' : l[j]? = some y := by
          rw [List.getElem?_take] at hj
          split at hj
          · exact hj
          · cases hj
        exact (Bu6.cell (p := ⟨b, off + j * 8 + i, none⟩) hbn).trans (hcells j y hj' i hi)
      refine step_append_may _ (by rfl) _ _ _ (by rfl) w5.heap.size 38 ii _ 8 128 Try.underlying22 hii hz0 hz1 hz2 rfl (by omega) (.slice (some ⟨w5.heap.size, 0, none⟩) 0 0) 0 [] (by rfl) O6 ⟨b, off, none⟩ k cap ((l.take k).flatMap pvC) (by rfl) (by rw [flat_len (C := pvC) (sz := 8) (fun _ => rfl), hlk]) (news_row (C := pvC) (cells := PV.cell) (sz := 8) (by decide) (fun _ => rfl) pvC_at hcl) (pvs_one (fun x hx => hat x (List.mem_of_mem_take hx))) (by unfold maxLen; omega) (by omega) Eu6.size ?_
      intro v7 u7 own7 grow7
      rw [Nat.zero_add, List.nil_append] at own7
      have Bu7 : Below w.heap.size w u7 := Bu6.grown grow7 Bu6.size (fun k hk => Nat.le_trans Bw5.size (own_block O6 k hk))
      have Eu7 : Below w5.heap.size w5 u7 := Eu6.grown grow7 Eu6.size (fun k hk => own_block O6 k hk)
      refine hK.out _ _ trivial (fun _ => ?_)
      clear hK K O6 grow7 hcl
      simp only [Act.put]
      try simp only [List.setIfInBounds_toArray]
      refine wpL_step (i := 9) rfl (by kernel_rfl) (fun K hK => ?_)
      have hlk2 : (l.drop k1).length = l.length - k1 := by rw [List.length_drop]
      have hcl : ∀ (j : Nat) (y : PV), (l.drop k1)[j]? = some y → ∀ i, i < 8 → u7.cell? ⟨b, o2 + j * 8 + i, none⟩ = some (PV.cell y i) := by
        intro j y hj i hi
        have hj' : l[k1 + j]? = some y := by rw [List.getElem?_drop] at hj; exact hj
        have hk1l : k1 < l.length := by have := (List.getElem?_eq_some_iff.1 hj').1; omega
        have := (Bu7.cell (p := ⟨b, off + (k1 + j) * 8 + i, none⟩) hbn).trans (hcells (k1 + j) y hj' i hi)
        rw [HO3.out hk1l, show off + k1 * 8 + j * 8 + i = off + (k1 + j) * 8 + i by omega]
        exact this
      refine step_append_may _ (by rfl) _ _ _ (by rfl) w5.heap.size 38 ii _ 8 128 Try.underlying22 hii hz0 hz1 hz2 rfl (by omega) v7 k ((l.take k).flatMap pvC) (by rfl) own7 ⟨b, o2, none⟩ (l.length - k1) (cap - k1) ((l.drop k1).flatMap pvC) (by rfl) (by rw [flat_len (C := pvC) (sz := 8) (fun _ => rfl), hlk2]) (news_row (C := pvC) (cells := PV.cell) (sz := 8) (by decide) (fun _ => rfl) pvC_at hcl) (pvs_one (fun x hx => hat x (List.mem_of_mem_drop hx))) (by unfold maxLen; omega) (by omega) Eu7.size ?_
      intro v9 u9 own9 grow9
      have B9 : Below w.heap.size w u9 := Bu7.grown grow9 Bu7.size (fun k hk => Nat.le_trans Bw5.size (own_block own7 k hk))
      have E9 : Below w5.heap.size w5 u9 := Eu7.grown grow9 Eu7.size (fun k hk => own_block own7 k hk)
      have HROW : Hid (RowOf 8 PV.cell u9.heap.size u9 v9 (l.take k ++ l.drop (k + 1))) := by
        have hn : k + (l.length - k1) = (l.take k ++ l.drop (k + 1)).length := by have := HK1.out; rw [List.length_append, hlk, List.length_drop]; omega
        have hx : (l.take k).flatMap pvC ++ (l.drop k1).flatMap pvC = (l.take k ++ l.drop (k + 1)).flatMap pvC := by rw [HK1.out, List.flatMap_append]
        rw [hn, hx] at own9
        exact own_rows (C := pvC) (cells := PV.cell) (sz := 8) (fun _ => rfl) pvC_at own9 (by rw [← hn]; omega)
      obtain ⟨av9, kv9, rfl⟩ := own_form own9
      refine hK.out _ _ trivial (fun _ => ?_)
      clear hK K own7 own9 grow9 hcl Bu6 Eu6 Bu7 Eu7 hlk hlk2 q0 q1 q2 q3 ho2
      simp only [Act.put]
      try simp only [List.setIfInBounds_toArray, List.set_cons_zero, List.set_cons_succ]
      refine wpL_last rfl (by kernel_rfl) (by kernel_rfl) (fun K hK => ?_)
      go_simp
      refine hK.out _ _ ?_
      refine NoPanic.normal ?_
      clear hK K
      obtain ⟨wL, hwL⟩ : ∃ wL, wL = u9 := ⟨_, rfl⟩
      subst hwL
      obtain ⟨a9, c9, ee, hm9, hcm⟩ := id HROW.out
      injection ee with e1 e2 e3
      subst e1 e3
      have hr9 := HROW.out
      rw [e2] at hr9 ⊢
      have HROW2 : Hid (RowOf 8 PV.cell wL.heap.size wL (.slice av9 (l.take k ++ l.drop (k + 1)).length kv9) (l.take k ++ l.drop (k + 1))) := hr9
      clear e2 HROW hr9
      generalize l.take k ++ l.drop (k + 1) = ms at *
      clear hcells hat HK1 HO3 q4 hlt Ew5 E9 Bw5 BQ
      go_wp2_with fail
      go_loopw [8] (fun i wr => ∃ (j : Nat), j ≤ ms.length ∧ i = .int .i64 j ∧ Below wL.heap.size wL wr) (fun i _ => ms.length - (intOf i).toNat)
      case atStart => exact ⟨0, Nat.zero_le _, rfl, Below.refl _ _⟩
      case round =>
        obtain ⟨j, hj, rfl, B⟩ := hrel
        have BW := B9.trans (B.mono B9.size)
        by_cases hlj : j < ms.length
        · obtain ⟨y, hy⟩ : ∃ y, ms[j]? = some y := ⟨_, List.getElem?_eq_getElem hlj⟩
          rcases hcm with h | ⟨b9, off9, rfl, hb9, hcs⟩
          · subst h; simp at hlj
          have cy9 := hcs j _ hy 0 (by omega)
          dsimp only [PV.cell] at cy9
          rw [Nat.add_zero] at cy9
          have cy := (B.cell (p := ⟨b9, off9 + j * 8, none⟩) hb9).trans cy9
          have HQ : Hid (∀ xs ys, CN y.mod.name xs → CN2 y.mod.name ys → CE y.mod.name = 0 ∧ CE2 y.mod.name = 0 ∧ xs = ys) := HNEED.out j y hy
          have hlji : (j : Int) < (ms.length : Int) := by omega
          clear hcs hy
          generalize y.mod.name = yn at *
          have HR9 := HROW2.out
          have HNA := HNL.out
          have HNY : Hid (∀ W, Below w.heap.size w W → Calls Try.prog 10 #[.slice (some ⟨b, off, none⟩) l.length cap, .string yn] W fun e w' => (∃ r ss, e = .returned (.tuple #[r, .int .i64 (CE yn)]) ∧ RowOf 1 strCell w'.heap.size w' r ss ∧ CN yn ss) ∧ Below W.heap.size W w') := fun W hb => HNL.out W yn hb
          have HNY2 : Hid (∀ W, Below w.heap.size w W → Below wL.heap.size wL W → Calls Try.prog 10 #[.slice (some ⟨b9, off9, none⟩) ms.length kv9, .string yn] W fun e w' => (∃ r ss, e = .returned (.tuple #[r, .int .i64 (CE2 yn)]) ∧ RowOf 1 strCell w'.heap.size w' r ss ∧ CN2 yn ss) ∧ Below W.heap.size W w') := fun W hb hb9 => HNS2.out W _ yn hb ((HR9.below hb9).more hb9.size)
          clear HR9 HNA
          go_wp2_with fail
          refine (HNY.out _ BW).mono ?_
          rintro e w10 ⟨⟨r10, xs, rfl, R10, hxs⟩, b10⟩
          have B10 := B.trans (b10.mono B.size)
          have cy10 := (B10.cell (p := ⟨b9, off9 + j * 8, none⟩) hb9).trans cy9
          have hb10 : b9 < w10.heap.size := Nat.lt_of_lt_of_le hb9 B10.size
          obtain ⟨a10, c10, rfl, _⟩ := id R10
          have BW10 := BW.trans (b10.mono BW.size)
          clear HNY b10 cy BW
          go_wp2_with fail
          refine (HNY2.out _ BW10 B10).mono ?_
          rintro e w11 ⟨⟨r11, ys, rfl, R11, hys⟩, b11⟩
          have B11 := B10.trans (b11.mono B10.size)
          have R12 := (R10.below b11).more b11.size
          obtain ⟨q1, q2, rfl⟩ := HQ.out xs ys hxs hys
          obtain ⟨a11, c11, rfl, _⟩ := id R11
          have HST : Hid (Calls Try.prog 14 #[.slice a10 xs.length c10, .slice a11 xs.length c11] w11 fun e w' => e = .returned (.bool true) ∧ Below w11.heap.size w11 w') := sameTexts_yes xs _ _ w11 R12 R11
          clear HNY2 b11 cy10 R10 R11 R12 HQ hxs hys cy9 B10 BW10
          rw [q1, q2]
          clear q1 q2
          go_wp2_with fail
          refine HST.out.mono ?_
          rintro e w12 ⟨rfl, b12⟩
          have B12 := B11.trans (b12.mono B11.size)
          clear HST b12 B11
          go_wp2
          exact ⟨⟨j + 1, by omega, by go_num, B12⟩, by simp [intOf]; omega⟩
        · obtain rfl : j = ms.length := by omega
          clear HNL HNS2 HNEED hcm hj
          have HOY2 : Hid (∀ W, Below w.heap.size w W → Below wL.heap.size wL W → Calls Try.prog 13 #[.slice av9 ms.length kv9] W fun e w' => (∃ r, e = .returned (.tuple #[r, .int .i64 OL.2]) ∧ RowOf 1 strCell w'.heap.size w' r OS.1 ∧ CapOk r) ∧ Below W.heap.size W w') := fun W hb hb9 => by
            rw [HORD.out]
            exact HOS2.out W _ hb ((HROW2.out.below hb9).more hb9.size)
          clear HOS2 HROW2 HORD
          go_wp2_with fail
          refine (HOL.out _ BW).mono ?_
          rintro e w10 ⟨⟨r10, rfl, R10, _⟩, b10⟩
          have B10 := B.trans (b10.mono B.size)
          have BW10 := BW.trans (b10.mono BW.size)
          obtain ⟨a10, c10, rfl, _⟩ := id R10
          clear HOL b10 BW B
          go_wp2_with fail
          refine (HOY2.out _ BW10 B10).mono ?_
          rintro e w11 ⟨⟨r11, rfl, R11, _⟩, b11⟩
          have B11 := BW10.trans (b11.mono BW10.size)
          have R12 := (R10.below b11).more b11.size
          obtain ⟨a11, c11, rfl, _⟩ := id R11
          clear HOY2 b11 B10 BW10 R10
          have hee : (OL.2 != OL.2) = false := by simp
          have hee2 : (OL.2 == OL.2) = true := by simp
          by_cases ho : OL.2 = 0
          · obtain ⟨hw1, hw2⟩ := HWANT.out ho
            have HW1 : Hid (OS.1 = OL.1.filter (notN xn)) := hw1
            have hz : (OL.2 != 0) = false := by rw [ho]; rfl
            clear HWANT hw1 ho
            generalize OL.2 = eo at *
            generalize OL.1 = al at *
            generalize OS.1 = bs at *
            obtain ⟨a12, c12, ee, _, hca⟩ := id R12
            injection ee with e1 e2 e3
            subst e1 e3
            clear e2
            go_wp2_with fail
            go_loopw [16, 17] (fun f i wr => ∃ (j n : Nat), j ≤ al.length ∧ i = .int .i64 j ∧ n ≤ j ∧ Hid (n = ((al.take j).filter (notN xn)).length) ∧ wr.ownsRow w11.heap.size 9 1 f n (((al.take j).filter (notN xn)).flatMap strC) ∧ Below w11.heap.size w11 wr) (fun _ i _ => al.length - (intOf i).toNat)
            case atStart => exact ⟨0, 0, Nat.zero_le _, rfl, Nat.le_refl _, (rfl : 0 = 0), ⟨rfl, .inl ⟨rfl, rfl⟩⟩, Below.refl _ _⟩
            case round =>
              obtain ⟨j, n, hj, rfl, hnj, HNL, hown, B⟩ := hrel
              have BW := B11.trans (B.mono B11.size)
              obtain ⟨av, kv, rfl⟩ := own_form hown
              by_cases hlj : j < al.length
              · obtain ⟨y, hy⟩ : ∃ y, al[j]? = some y := ⟨_, List.getElem?_eq_getElem hlj⟩
                rcases hca with h | ⟨bA, offA, rfl, hbA, hcs⟩
                · subst h; simp at hlj
                have cy9 := hcs j _ hy 0 (by omega)
                dsimp only [strCell] at cy9
                rw [Nat.add_zero, Nat.mul_one] at cy9
                have cy := (B.cell (p := ⟨bA, offA + j, none⟩) hbA).trans cy9
                have cx := (BW.cell (p := ⟨b, off + k * 8, none⟩) hbn).trans cxw
                have htk : al.take (j + 1) = al.take j ++ [y] := by rw [List.take_add_one, hy]; rfl
                have hlji : (j : Int) < (al.length : Int) := by omega
                have hbA2 : bA < wr.heap.size := Nat.lt_of_lt_of_le hbA B.size
                have hb2 : b < wr.heap.size := Nat.lt_of_lt_of_le hbn BW.size
                have hnw := notN_walk xn y
                have HFY : Hid (notN xn y = true → (al.take (j + 1)).filter (notN xn) = (al.take j).filter (notN xn) ++ [y]) := fun h => by rw [htk, List.filter_append, List.filter_cons, if_pos h]; rfl
                have HFN : Hid (notN xn y = false → (al.take (j + 1)).filter (notN xn) = (al.take j).filter (notN xn)) := fun h => by rw [htk, List.filter_append, List.filter_cons, if_neg (by rw [h]; decide)]; simp
                clear hcs hy cy9 htk
                generalize (al.take j).filter (notN xn) = acc at *
                generalize notN xn y = T at *
                have HNL2 : Hid (n = acc.length) := HNL.out
                have HOQ : Hid (∀ q, (wr.drewN q).ownsRow w11.heap.size 9 1 (.slice av n kv) n (acc.flatMap strC)) := fun q => hown
                have HBQ : Hid (∀ q, Below w11.heap.size w11 (wr.drewN q)) := fun q => below_drewN B q
                have HSZ : Hid (w11.heap.size ≤ wr.heap.size) := B.size
                clear hown HNL B BW
                cases T
                · have hq : y = xn := by
                    cases h : y.toList == xn.toList
                    · rw [bne, h] at hnw; cases hnw
                    · rw [toList_beq2] at h; exact (Go.MapKept.bytes_beq _ _).1 h
                  subst hq
                  clear hnw
                  go_wp2_with fail
                  go_quiet (fail)
                  go_wp2
                  exact ⟨⟨j + 1, n, by omega, by go_num, by omega, by rw [HFN.out (by first | rfl | trivial)]; exact HNL2.out, by rw [HFN.out (by first | rfl | trivial)]; exact HOQ.out _, HBQ.out _⟩, by simp [intOf]; omega⟩
                · have hne : ¬ y.toList = xn.toList := fun h => by
                    rw [h] at hnw
                    simp at hnw
                  have hq0 : (y.toList == xn.toList) = false := by simpa using hne
                  have hq1 : (!(y.toList == xn.toList)) = true := by rw [hq0]; rfl
                  have hq2 : (y.toList != xn.toList) = true := hnw.symm
                  have hq3 : decide (y.toList = xn.toList) = false := decide_eq_false hne
                  clear hnw
                  go_wp2_with fail
                  go_quiet (fail)
                  go_wp2_with (at_builtin; refine wpList_append_lies _ rfl _ _ _ rfl w11.heap.size 9 is' _ 1 16 Try.underlying24 hiS hs0 hs1 hs2 rfl (by omega) (.slice av n kv) n (acc.flatMap strC) rfl ((HOQ.out _).alloc _) ⟨wr.heap.size, 0, none⟩ 1 1 [.string y] rfl rfl (World.news_of_block (cs := #[.string y]) (t := 9) (fr := (0, 0)) (CellsAt.new (wr.drewN _) 9 #[.string y])) (by simp [Value.oneCell']) (by omega) (by unfold maxLen; omega) (by omega) (by have := HSZ.out; simp; omega) (wr.heap.size + 1) (by simp) ?_; intro g gc w8 hown8 hgrow hat hltg)
                  have hfy := HFY.out (by first | rfl | trivial)
                  have BA := (HBQ.out nq).alloc (HBQ.out nq).size (.cells #[.string y] 9)
                  refine ⟨⟨j + 1, n + 1, by omega, by go_num, by omega, by rw [hfy, List.length_append, ← HNL2.out]; rfl, ?_, BA.grown hgrow BA.size (fun i hi => own_block (HOQ.out nq) i hi)⟩, by simp [intOf]; omega⟩
                  rw [hfy, List.flatMap_append]
                  exact hown8
              · obtain rfl : j = al.length := by omega
                rw [List.take_length, ← HW1.out] at hown HNL
                obtain rfl := HNL.out
                have RW : RowOf 1 strCell wr.heap.size wr (.slice av bs.length kv) bs := own_rows (C := strC) (cells := strCell) (sz := 1) (fun _ => rfl) strC_at hown (by omega)
                clear HNL
                have RB := (R11.below B).more B.size
                have HST : Hid (Calls Try.prog 14 #[.slice a11 bs.length c11, .slice av bs.length kv] wr fun e w' => e = .returned (.bool true) ∧ Below wr.heap.size wr w') := sameTexts_yes bs _ _ wr RB RW
                clear RW RB hown
                go_wp2_with fail
                refine HST.out.mono ?_
                rintro e w12 ⟨rfl, b12⟩
                have B12 := BW.trans (b12.mono BW.size)
                clear HST
                go_wp2
                go_ret
                exact ⟨rfl, B12⟩
          · have hz : (OL.2 != 0) = true := by simpa using ho
            clear HWANT ho
            go_wp2
            go_ret
            exact ⟨rfl, B11⟩
  · have h0' : (CE x.mod.name != 0) = true := by simpa using h0
    have h0'' : (CE x.mod.name == 0) = false := by simpa using h0
    obtain rfl := HE.out _ us hu h0
    clear HNL HOL HNS HOS HDD HE H8 hat hcells h0 hu
    generalize CE x.mod.name = ce at *
    go_wp2
    go_ret
    exact ⟨rfl, BQ⟩

end Go.Proofs.Ytaklbnabgcglhac.graphLess
