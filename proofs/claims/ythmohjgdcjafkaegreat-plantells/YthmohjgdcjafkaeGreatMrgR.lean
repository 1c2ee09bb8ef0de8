/- Texts that are laid together. -/
import Derived.Test.YthmohjgdcjafkaeGreatProg
import Derived.Deep.AppendLies
import Derived.Deep.Upon
import Derived.Test.YthmohjgdcjafkaeGreatMrgO
import Derived.Test.YthmohjgdcjafkaeGreatMrgQ
import Derived.Lib.QuietBelow
import Derived.Test.YthmohjgdcjafkaeGreatMrgG
import Derived.Test.YthmohjgdcjafkaeGreatMrgE
import Derived.Test.YthmohjgdcjafkaeGreatMrgA

/- Appends that may append nothing. -/
namespace Go.Proofs.YthmohjgdcjafkaeGreat

section
variable {P : Program} {ops : Array Oper} {Q : Exit → Act → World → Prop}
/-- Nothing is appended. -/
theorem wpList_append_none {rest : List Oper} {o : Oper} {a : Act} {w : World} (hgd : o.guard = none) (s x : Operand) (t : TypeId)
    (ho : o.op = .call { callee := .builtin .append, args := #[s, x], argTypes := #[t, t] })
    (e : TypeId) (i : TypeInfo) (ht : P.underlying t = some (.slice e)) (hi : P.info? e = some i)
    (base : Option Addr) (n c : Nat) (hs : a.eval s = .slice base n c) (hle : n ≤ c) (c' : Nat) (hx : a.eval x = .slice none 0 c')
    (h : wpList P ops Q rest (a.put o.dst (.slice base n c)) w) : wpList P ops Q (o :: rest) a w :=
  wpList_plain hgd fun K hK => by
    have hr := run_append_nothing (P := P) w t t o.type e i ht hi base n c hle (.slice none 0 c') (Src.ofNil _ ht c')
    unfold Oper.wp execOp
    simp only [ho, resolve, invoke, builtin, Sem.run_bind, Sem.run_pure, Result.andThen_ok, List.map_toArray, List.map_cons, List.map_nil, hs, hx, hr]
    exact hK _ _ h
/-- Something may be appended, to a row of one's own. -/
theorem wpList_append_may {rest : List Oper} {o : Oper} {a : Act} {w : World} (hgd : o.guard = none) (s x : Operand) (t : TypeId)
    (ho : o.op = .call { callee := .builtin .append, args := #[s, x], argTypes := #[t, t] })
    (base : Nat) (e : TypeId) (i : TypeInfo) (z : Value) (size bytes : Nat) (ht : P.underlying t = some (.slice e)) (hi : P.info? e = some i) (hz : i.zero = some z)
    (hsize : i.size = size) (hby : i.bytes = bytes) (hzs : z.cells.size = size) (hsz : 0 < size)
    (v : Value) (n : Nat) (xs : List Value) (hs : a.eval s = v) (hown : w.ownsRow base e size v n xs)
    (ad : Addr) (m c : Nat) (news : List Value) (hx : a.eval x = .slice (some ad) m c) (hl : news.length = m * size) (hnews : ∀ j u, news[j]? = some u → w.cell? (ad.add j) = some u) (h1 : ∀ u ∈ news, u.oneCell' = true)
    (h63 : n + m ≤ maxLen) (hbytes : (n + m) * bytes ≤ 140737488355328) (hbase : base ≤ w.heap.size)
    (h : ∀ a' c' w', w'.ownsRow base e size (.slice a' (n + m) c') (n + m) (xs ++ news) → w.grownBy w' v.ownBlock → wpList P ops Q rest (a.put o.dst (.slice a' (n + m) c')) w') : wpList P ops Q (o :: rest) a w :=
  wpList_plain hgd fun K hK => by
    obtain ⟨v', w', hr, h2, h3, _, _⟩ := run_append_own_at (P := P) w base t o.type e i z size bytes ht hi hz hsize hby hzs hsz v n xs hown ad m c news hl hnews h1 h63 hbytes hbase
    obtain ⟨a', c', rfl⟩ : ∃ a' c', v' = .slice a' (n + m) c' := by
      rcases h2.2 with ⟨rfl, h0⟩ | ⟨g, cap, cur, rfl, _⟩
      · exact ⟨_, _, by rw [h0]⟩
      · exact ⟨_, _, rfl⟩
    unfold Oper.wp execOp
    simp only [ho, resolve, invoke, builtin, Sem.run_bind, Sem.run_pure, Result.andThen_ok, List.map_toArray, List.map_cons, List.map_nil, hs, hx, hr]
    exact hK _ _ (h a' c' w' h2 h3)
end

end Go.Proofs.YthmohjgdcjafkaeGreat

/- The contract of the document's StepOf. -/
namespace Go.Proofs.YthmohjgdcjafkaeGreat
open Go.RowKit Go.PlainAid Go.Lib

set_option maxRecDepth 100000

theorem append_row {w : World} {l : List PV} {v : Value} {n0 : Nat} (hrow : RowOf 8 PV.cell n0 w v l) : (∃ c, v = .slice none 0 c ∧ l = []) ∨ ∃ ad c, v = .slice (some ad) l.length c ∧ ∀ (w' : World), Below n0 w w' → ∀ j u, (l.flatMap pvC)[j]? = some u → w'.cell? (ad.add j) = some u := by
  obtain ⟨a, cap, rfl, _, h⟩ := hrow
  cases a with
  | none =>
    rcases h with rfl | ⟨b, off, e, _⟩
    · exact .inl ⟨cap, rfl, rfl⟩
    · cases e
  | some ad =>
    refine .inr ⟨ad, cap, rfl, fun w' hb => ?_⟩
    rcases h with rfl | ⟨b, off, e, hbn, hc⟩
    · intro j u hu; simp at hu
    · injection e with e
      subst e
      exact news_row (C := pvC) (cells := PV.cell) (sz := 8) (by decide) (fun _ => rfl) pvC_at fun j x hx i hi => (hb.cell (p := ⟨b, off + j * 8 + i, none⟩) hbn).trans (hc j x hx i hi)

theorem step_at {e : Int} {L P D : List Plc} {x : Plc} (h : stepFrom 0 L = (stepFrom e (x :: D)).map (P ++ ·)) :
    (x.first = e → stepFrom 0 L = (stepFrom (e + szM x.mod) D).map ((P ++ [x]) ++ ·)) ∧ (x.first ≠ e → stepFrom 0 L = some (P ++ ⟨x.mod, e⟩ :: D)) := by
  have hs : stepFrom e (x :: D) = if x.first = e then (stepFrom (e + szM x.mod) D).map (x :: ·) else some (⟨x.mod, e⟩ :: D) := rfl
  refine ⟨fun h1 => ?_, fun h1 => ?_⟩
  · rw [h, hs, if_pos h1, Option.map_map]
    congr 1
    funext y
    simp
  · rw [h, hs, if_neg h1]
    rfl

set_option maxHeartbeats 16000000 in
theorem stepOf_any (K : Ker) (l : List PV) (v : Value) (w : World) (hreg : IsReg w.heap.size w v K l) (hl : l.length ≤ 8) (hsz : ∀ x ∈ l, x.mod.text.size ≤ 256) :
    Calls Tryz.prog 25 #[v] w fun e w' => (∃ (v' : Value) (l' : List PV), e = .returned (.tuple #[v', .bool (stepRes (l.map PV.plc)).2]) ∧ l'.map PV.plc = (stepRes (l.map PV.plc)).1 ∧ l'.map (·.mod) = l.map (·.mod) ∧ IsReg w'.heap.size w' v' K l') ∧ Below w.heap.size w w' := by
  obtain ⟨ii, hii, hz0, hz1, hz2⟩ := infoPlc_parts
  obtain ⟨SR, hSR⟩ : ∃ SR, SR = stepRes (l.map PV.plc) := ⟨_, rfl⟩
  rw [← hSR]
  have HSR : Hid (SR = stepRes (l.map PV.plc)) := hSR
  clear hSR
  obtain ⟨SL, sb⟩ := SR
  dsimp only
  obtain ⟨ve, vl, rfl, hE, hL⟩ := hreg
  have HE0 : Hid (RowOf 2 Exp.cell w.heap.size w ve K.exps) := hE
  have HAT : Hid (∀ x ∈ l, PlcAt w.heap.size w x) := hL.2
  have HSZ : Hid (∀ x ∈ l, x.mod.text.size ≤ 256) := hsz
  have happ := append_row hL.1
  obtain ⟨qe, je, rfl, -, -⟩ := hE
  obtain ⟨⟨a, cap, rfl, -, -⟩, -⟩ := hL
  obtain ⟨ma, mi, ks⟩ := K
  dsimp only at *
  generalize hlk : ks.length = lk at *
  have HLK : Hid (ks.length = lk) := hlk
  clear hlk hsz
  have HB3 : Hid (Below w.heap.size w (((w.alloc (.cells #[.int .i64 ma, .int .i64 mi, .slice qe lk je, .slice a l.length cap] 27)).alloc (.cells #[.int .i64 0, .int .i64 0, .slice none 0 0, .slice none 0 0] 27)).alloc (.cells #[.int .i64 ma, .int .i64 mi, .slice qe lk je, .slice a l.length cap] 27))) := (((Below.refl _ _).alloc (Nat.le_refl _) _).alloc (by simp) _).alloc (by simp; omega) _
  have HZ3 : Hid (CellsAt (((w.alloc (.cells #[.int .i64 ma, .int .i64 mi, .slice qe lk je, .slice a l.length cap] 27)).alloc (.cells #[.int .i64 0, .int .i64 0, .slice none 0 0, .slice none 0 0] 27)).alloc (.cells #[.int .i64 ma, .int .i64 mi, .slice qe lk je, .slice a l.length cap] 27)) (w.heap.size + 1) 27 #[.int .i64 0, .int .i64 0, .slice none 0 0, .slice none 0 0]) := by
    have := (CellsAt.new (w.alloc (.cells #[.int .i64 ma, .int .i64 mi, .slice qe lk je, .slice a l.length cap] 27)) 27 #[.int .i64 0, .int .i64 0, .slice none 0 0, .slice none 0 0]).kept (World.grownBy_alloc _ (.cells #[.int .i64 ma, .int .i64 mi, .slice qe lk je, .slice a l.length cap] 27) none) (by simp)
    rw [World.size_alloc] at this
    exact this
  have HC3 : Hid (CellsAt (((w.alloc (.cells #[.int .i64 ma, .int .i64 mi, .slice qe lk je, .slice a l.length cap] 27)).alloc (.cells #[.int .i64 0, .int .i64 0, .slice none 0 0, .slice none 0 0] 27)).alloc (.cells #[.int .i64 ma, .int .i64 mi, .slice qe lk je, .slice a l.length cap] 27)) (w.heap.size + 2) 27 #[.int .i64 ma, .int .i64 mi, .slice qe lk je, .slice a l.length cap]) := by
    have := CellsAt.new ((w.alloc (.cells #[.int .i64 ma, .int .i64 mi, .slice qe lk je, .slice a l.length cap] 27)).alloc (.cells #[.int .i64 0, .int .i64 0, .slice none 0 0, .slice none 0 0] 27)) 27 #[.int .i64 ma, .int .i64 mi, .slice qe lk je, .slice a l.length cap]
    rw [World.size_alloc, World.size_alloc] at this
    exact this
  have HR3 : Hid (CellsAt (((w.alloc (.cells #[.int .i64 ma, .int .i64 mi, .slice qe lk je, .slice a l.length cap] 27)).alloc (.cells #[.int .i64 0, .int .i64 0, .slice none 0 0, .slice none 0 0] 27)).alloc (.cells #[.int .i64 ma, .int .i64 mi, .slice qe lk je, .slice a l.length cap] 27)) w.heap.size 27 #[.int .i64 ma, .int .i64 mi, .slice qe lk je, .slice a l.length cap]) := ((CellsAt.new w 27 #[.int .i64 ma, .int .i64 mi, .slice qe lk je, .slice a l.length cap]).kept (World.grownBy_alloc _ _ none) (by simp)).kept (World.grownBy_alloc _ _ none) (by simp)
  have HS3 : Hid (((((w.alloc (.cells #[.int .i64 ma, .int .i64 mi, .slice qe lk je, .slice a l.length cap] 27)).alloc (.cells #[.int .i64 0, .int .i64 0, .slice none 0 0, .slice none 0 0] 27)).alloc (.cells #[.int .i64 ma, .int .i64 mi, .slice qe lk je, .slice a l.length cap] 27))).heap.size = w.heap.size + 3) := by show _ = _; simp
  go_enter Tryz.func25, Tryz.ntmps25
  go_upto_region 2 with fail
  generalize (((w.alloc (.cells #[.int .i64 ma, .int .i64 mi, .slice qe lk je, .slice a l.length cap] 27)).alloc (.cells #[.int .i64 0, .int .i64 0, .slice none 0 0, .slice none 0 0] 27)).alloc (.cells #[.int .i64 ma, .int .i64 mi, .slice qe lk je, .slice a l.length cap] 27)) = w3 at *
  have hs3 := HS3.out
  have B4 : Below w.heap.size w (w3.alloc (.cells #[] 54)) := HB3.out.alloc HB3.out.size _
  have Z4 : CellsAt (w3.alloc (.cells #[] 54)) (w.heap.size + 1) 27 #[.int .i64 0, .int .i64 0, .slice none 0 0, .slice none 0 0] := HZ3.out.kept (World.grownBy_alloc _ _ none) (by simp)
  have C4 : CellsAt (w3.alloc (.cells #[] 54)) (w.heap.size + 2) 27 #[.int .i64 ma, .int .i64 mi, .slice qe lk je, .slice a l.length cap] := HC3.out.kept (World.grownBy_alloc _ _ none) (by simp)
  have O4 : (w3.alloc (.cells #[] 54)).ownsRow (w.heap.size + 3) 54 8 (.slice (some ⟨(w.heap.size + 3), 0, none⟩) 0 0) 0 [] := by
    have := own_empty (W := w3) (base := w3.heap.size) (e := 54) (Nat.le_refl _) (sz := 8)
    rwa [hs3] at this
  have HAP : Hid (∀ (oa : Option Addr) (oc : Nat) (w5 : World), w5.ownsRow (w.heap.size + 3) 54 8 (.slice oa l.length oc) l.length (l.flatMap pvC) → (w3.alloc (.cells #[] 54)).grownBy w5 (some (w.heap.size + 3)) → Below w.heap.size w w5 ∧ CellsAt w5 (w.heap.size + 1) 27 #[.int .i64 0, .int .i64 0, .slice none 0 0, .slice none 0 0] ∧ CellsAt w5 (w.heap.size + 2) 27 #[.int .i64 ma, .int .i64 mi, .slice qe lk je, .slice a l.length cap]) := fun oa oc w5 h1 h2 => ⟨B4.grown h2 B4.size (fun q hq => by obtain rfl := Option.some.inj hq; omega), Z4.kept h2 (by intro e; have := Option.some.inj e; omega), C4.kept h2 (by intro e; have := Option.some.inj e; omega)⟩
  have HO4 : Hid _ := O4
  have HB4 : Hid (Below w.heap.size w (w3.alloc (.cells #[] 54))) := B4
  go_cut [] from 5 (fun wx => ∃ (oa : Option Addr) (oc : Nat), Hid (wx.ownsRow (w.heap.size + 3) 54 8 (.slice oa l.length oc) l.length (l.flatMap pvC)) ∧ Hid (CellsAt wx (w.heap.size + 1) 27 #[.int .i64 0, .int .i64 0, .slice none 0 0, .slice none 0 0]) ∧ Hid (CellsAt wx (w.heap.size + 2) 27 #[.int .i64 ma, .int .i64 mi, .slice qe lk je, .slice oa l.length oc]) ∧ Hid (Below w.heap.size w wx))
  case first =>
    have k3 := CellsAt.cell HR3.out 3
    have kl := CellsAt.lt HR3.out
    simp at k3
    have HC4 : Hid _ := C4
    have HZ4 : Hid _ := Z4
    clear C4 Z4 B4 O4 HR3 HS3
    have STORE : ∀ (oa : Option Addr) (oc : Nat) (w5 : World), Hid (w5.ownsRow (w.heap.size + 3) 54 8 (.slice oa l.length oc) l.length (l.flatMap pvC)) → Hid ((w3.alloc (.cells #[] 54)).grownBy w5 (some (w.heap.size + 3))) → Hid (w5.ownsRow (w.heap.size + 3) 54 8 (.slice oa l.length oc) l.length (l.flatMap pvC) ∧ CellsAt w5 (w.heap.size + 1) 27 #[.int .i64 0, .int .i64 0, .slice none 0 0, .slice none 0 0] ∧ CellsAt w5 (w.heap.size + 2) 27 #[.int .i64 ma, .int .i64 mi, .slice qe lk je, .slice a l.length cap] ∧ Below w.heap.size w w5) := fun oa oc w5 h1 h2 => ⟨h1.out, (HAP.out oa oc w5 h1.out h2.out).2.1, (HAP.out oa oc w5 h1.out h2.out).2.2, (HAP.out oa oc w5 h1.out h2.out).1⟩
    have HST : Hid _ := STORE
    clear STORE
    rcases happ with ⟨c, hv, hl0⟩ | ⟨ad, c, hv, hnews⟩
    · injection hv with e1 e2 e3
      subst e1 e3
      clear e2
      subst hl0
      have HOX : Hid ((w3.alloc (.cells #[] 54)).ownsRow (w.heap.size + 3) 54 8 (.slice (some ⟨(w.heap.size + 3), 0, none⟩) ([] : List PV).length 0) ([] : List PV).length (([] : List PV).flatMap pvC)) := HO4
      have HGX : Hid ((w3.alloc (.cells #[] 54)).grownBy (w3.alloc (.cells #[] 54)) (some (w.heap.size + 3))) := ⟨rfl, rfl, rfl, Nat.le_refl _, fun k _ _ => rfl⟩
      have HQ := HST.out _ _ _ HOX HGX
      have hq1 := CellsAt.cell HQ.out.2.2.1 3
      have hq2 := CellsAt.frozen HQ.out.2.2.1 3
      have hq3 := CellsAt.lt HQ.out.2.2.1
      simp at hq1
      go_wp2_with (at_builtin; refine wpList_append_none rfl _ _ _ rfl 54 ii Tryz.underlying25 hii (some ⟨(w.heap.size + 3), 0, none⟩) 0 0 rfl (Nat.le_refl _) cap rfl ?_)
      go_meet
      have hz := grown_set w3 (w.heap.size + 2) 3 (.slice (some ⟨(w.heap.size + 3), 0, none⟩) 0 0)
      have hcs := CellsAt.set 3 (.slice (some ⟨(w.heap.size + 3), 0, none⟩) 0 0) HC3.out
      simp only [List.setIfInBounds_toArray, List.set_cons_zero, List.set_cons_succ] at hcs
      have ho := own_empty (W := w3.setCell ⟨w.heap.size + 2, 3, none⟩ (.slice (some ⟨(w.heap.size + 3), 0, none⟩) 0 0)) (base := w.heap.size + 3) (e := 54) (by simp [World.setCell, hs3]) (sz := 8)
      rw [show (w3.setCell ⟨w.heap.size + 2, 3, none⟩ (.slice (some ⟨(w.heap.size + 3), 0, none⟩) 0 0)).heap.size = w.heap.size + 3 by simp [World.setCell, hs3]] at ho
      have hb := HB3.out.grown hz HB3.out.size (fun q hq => by obtain rfl := Option.some.inj hq; omega)
      exact ⟨some ⟨(w.heap.size + 3), 0, none⟩, 0, ho, (HZ3.out.kept hz (by intro e; have := Option.some.inj e; omega)).kept (World.grownBy_alloc _ _ none) (by simp), CellsAt.kept hcs (World.grownBy_alloc _ _ none) (by simp), hb.alloc hb.size _⟩
    · injection hv with e1 e2 e3
      subst e1 e3
      clear e2
      have hnw := hnews (w3.alloc (.cells #[] 54)) HB4.out
      clear hnews
      have HONE : Hid (∀ u ∈ l.flatMap pvC, u.oneCell' = true) := pvs_one HAT.out
      go_wp2_with (at_builtin; refine wpList_append_may rfl _ _ _ rfl (w.heap.size + 3) 54 ii _ 8 128 Tryz.underlying25 hii hz0 hz1 hz2 rfl (by omega) (.slice (some ⟨(w.heap.size + 3), 0, none⟩) 0 0) 0 [] rfl HO4.out ad l.length cap (l.flatMap pvC) rfl (flat_len (C := pvC) (sz := 8) (fun _ => rfl) l) hnw HONE.out (by unfold maxLen; omega) (by omega) (by simp; omega) ?_; intro oa oc w5 hown hgrow; rw [Nat.zero_add, List.nil_append] at hown; rw [Nat.zero_add]; have HOX : Hid _ := hown; have HGX : Hid ((w3.alloc (.cells #[] 54)).grownBy w5 (some (w.heap.size + 3))) := hgrow; have HQ : Hid _ := HST.out _ _ _ HOX HGX; have hq1 := CellsAt.cell HQ.out.2.2.1 3; have hq2 := CellsAt.frozen HQ.out.2.2.1 3; have hq3 := CellsAt.lt HQ.out.2.2.1; simp at hq1; clear hown hgrow)
      go_meet
      have hz := grown_set w5 (w.heap.size + 2) 3 (.slice oa l.length oc)
      have hcs := CellsAt.set 3 (.slice oa l.length oc) HQ.out.2.2.1
      simp only [List.setIfInBounds_toArray, List.set_cons_zero, List.set_cons_succ] at hcs
      exact ⟨oa, oc, HQ.out.1.kept hz (.inr (own_ne_cells HQ.out.1 HQ.out.2.2.1 (by decide))), HQ.out.2.1.kept hz (by intro e; have := Option.some.inj e; omega), hcs, HQ.out.2.2.2.grown hz HQ.out.2.2.2.size (fun q hq => by obtain rfl := Option.some.inj hq; omega)⟩
  case rest =>
  obtain ⟨oa, oc, HO, HZ, HC, HB⟩ := hcut
  clear HO4 HB4 HAP happ B4 Z4 C4 O4 HB3 HZ3 HC3 HR3 HS3
  have HL0 : Hid (stepFrom 0 (l.map PV.plc) = (stepFrom 0 ((l.drop 0).map PV.plc)).map (((l.take 0).map PV.plc) ++ ·)) := by
    show _ = Option.map (fun x => [] ++ x) _
    simp
  obtain ⟨wq, hwq⟩ : ∃ x, x = wc := ⟨_, rfl⟩
  subst hwq
  go_wp2_with fail
  go_loopg [5, 6] l.length (fun gk s5 s6 wr => ∃ (k : Nat) (e : Int), Hid (gk = l.length - k) ∧ k ≤ l.length ∧ s5 = .int .i64 e ∧ s6 = .int .i64 k ∧ Hid (0 ≤ e ∧ e ≤ 4 * (k : Int)) ∧ Hid (stepFrom 0 (l.map PV.plc) = (stepFrom e ((l.drop k).map PV.plc)).map (((l.take k).map PV.plc) ++ ·)) ∧ Hid (wr.ownsRow (w.heap.size + 3) 54 8 (.slice oa l.length oc) l.length (l.flatMap pvC)) ∧ Hid (CellsAt wr (w.heap.size + 1) 27 #[.int .i64 0, .int .i64 0, .slice none 0 0, .slice none 0 0]) ∧ Hid (CellsAt wr (w.heap.size + 2) 27 #[.int .i64 ma, .int .i64 mi, .slice qe lk je, .slice oa l.length oc]) ∧ Hid (Below w.heap.size w wr))
  case atStart => exact ⟨0, 0, (rfl : l.length = l.length - 0), Nat.zero_le _, rfl, rfl, ⟨Int.le_refl _, by omega⟩, HL0, HO, HZ, HC, HB⟩
  case round =>
    obtain ⟨k, e, HGK, hk, rfl, rfl, HE, HS, HO1, HZ1, HC1, HB1⟩ := hrel
    clear HO HZ HC HB HL0
    have c0 := CellsAt.cell HC1.out 0
    have c1 := CellsAt.cell HC1.out 1
    have c2 := CellsAt.cell HC1.out 2
    have c3 := CellsAt.cell HC1.out 3
    have cl := CellsAt.lt HC1.out
    simp at c0 c1 c2 c3
    have z0 := CellsAt.cell HZ1.out 0
    have z1 := CellsAt.cell HZ1.out 1
    have z2 := CellsAt.cell HZ1.out 2
    have z3 := CellsAt.cell HZ1.out 3
    have f0 := CellsAt.frozen HZ1.out 0
    have f1 := CellsAt.frozen HZ1.out 1
    have f2 := CellsAt.frozen HZ1.out 2
    have f3 := CellsAt.frozen HZ1.out 3
    simp at z0 z1 z2 z3
    by_cases hlt : k < l.length
    · obtain ⟨x, hx⟩ : ∃ x, l[k]? = some x := ⟨_, List.getElem?_eq_getElem hlt⟩
      obtain ⟨g, gc, ea, -⟩ : ∃ g c9, Value.slice oa l.length oc = .slice (some ⟨g, 0, none⟩) l.length c9 ∧ True := by
        rcases HO1.out.2 with ⟨_, hn⟩ | ⟨g, c9, cur, e, _⟩
        · omega
        · exact ⟨g, c9, e, trivial⟩
      injection ea with ea1 ea2 ea3
      subst ea1 ea3
      have fl := fun i (hi : i < 8) => flat_at (C := pvC) (sz := 8) (fun _ => rfl) l k x i hx hi
      have cl8 := fun i (hi : i < 8) => (World.ownsRow.cellAt HO1.out (k * 8 + i) (by omega)).trans (fl i hi)
      have HX : Hid (l[k]? = some x) := hx
      have hdrop : l.drop k = x :: l.drop (k + 1) := drop_at hx
      have hsa := HS.out
      rw [hdrop, List.map_cons] at hsa
      obtain ⟨hs1, hs2⟩ := step_at hsa
      have htake : (l.take k).map PV.plc ++ [x.plc] = (l.take (k + 1)).map PV.plc := by
        rw [List.take_add_one, hx, List.map_append]
        rfl
      rw [htake] at hs1
      have HS1 : Hid (x.first = e → stepFrom 0 (l.map PV.plc) = (stepFrom (e + szM x.mod) ((l.drop (k + 1)).map PV.plc)).map ((l.take (k + 1)).map PV.plc ++ ·)) := hs1
      have HS2 : Hid (x.first ≠ e → stepFrom 0 (l.map PV.plc) = some ((l.set k (x.at e)).map PV.plc)) := fun h => by
        rw [hs2 h]
        congr 1
        rw [List.set_eq_take_append_cons_drop, if_pos hlt, List.map_append, List.map_cons]
        rfl
      have hxm := List.mem_of_getElem? hx
      have htz := HSZ.out x hxm
      have hxat := HAT.out x hxm
      have hszm : szM x.mod ≤ 4 := by unfold szM; omega
      have HXA : Hid (PlcAt w.heap.size w x) := hxat
      obtain ⟨⟨pe, ke, e4, -⟩, ⟨pi, ki, e5, -⟩, ⟨pp, kp, e6, -⟩⟩ := hxat
      have HXV : Hid (x = x) := rfl
      obtain ⟨⟨N, xa, xi, T, es, is, ps⟩, xve, xvi, xvp, fi⟩ := x
      dsimp only at *
      subst e4 e5 e6
      have d0 : wr.cell? ⟨g, k * 8, none⟩ = some (.string N) := cl8 0 (by omega)
      have d1 : wr.cell? ⟨g, k * 8 + 1, none⟩ = some (.int .i64 xa) := cl8 1 (by omega)
      have d2 : wr.cell? ⟨g, k * 8 + 2, none⟩ = some (.int .i64 xi) := cl8 2 (by omega)
      have d3 : wr.cell? ⟨g, k * 8 + 3, none⟩ = some (.string T) := cl8 3 (by omega)
      have d4 : wr.cell? ⟨g, k * 8 + 4, none⟩ = some (.slice pe es.length ke) := cl8 4 (by omega)
      have d5 : wr.cell? ⟨g, k * 8 + 5, none⟩ = some (.slice pi is.length ki) := cl8 5 (by omega)
      have d6 : wr.cell? ⟨g, k * 8 + 6, none⟩ = some (.slice pp ps.length kp) := cl8 6 (by omega)
      have d7 : wr.cell? ⟨g, k * 8 + 7, none⟩ = some (.int .i64 fi) := cl8 7 (by omega)
      have hkl : (k : Int) < (l.length : Int) := by omega
      have hk0 : ¬ ((k : Int) < 0) := by omega
      clear fl cl8 hdrop hsa hs1 hs2 htake hx hxm HXV
      by_cases hfe : fi = e
      · have HS3 : Hid (stepFrom 0 (l.map PV.plc) = (stepFrom (e + szM ⟨N, xa, xi, T, es, is, ps⟩) ((l.drop (k + 1)).map PV.plc)).map ((l.take (k + 1)).map PV.plc ++ ·)) := HS1.out hfe
        have hfe' : (fi != e) = false := by simpa using hfe
        have HEE := HE.out
        have hmz : ((T.size + 63) / 64 : Nat) ≤ 4 := hszm
        obtain ⟨z8, hz8⟩ : ∃ z : Nat, z = (T.size + 63) / 64 := ⟨_, rfl⟩
        have HSO : Hid (∀ W, Calls Tryz.prog 47 #[.agg #[.string N, .int .i64 xa, .int .i64 xi, .string T, .slice pe es.length ke, .slice pi is.length ki, .slice pp ps.length kp]] W fun e w' => e = .returned (.int .i64 (z8 : Int)) ∧ Below W.heap.size W w') := fun W => by rw [hz8]; exact sizeOf_any N T xa xi pe pi pp _ _ _ _ _ _ W htz
        have HZ8 : Hid ((szM ⟨N, xa, xi, T, es, is, ps⟩ : Int) = (z8 : Int)) := by show _ = _; rw [hz8]; rfl
        rw [← hz8] at hmz
        have ew : wrap64 (e + (z8 : Int)) = e + (z8 : Int) := by unfold wrap64; omega
        have HE2 : Hid (0 ≤ e + (z8 : Int) ∧ e + (z8 : Int) ≤ 4 * ((k + 1 : Nat) : Int)) := ⟨by omega, by omega⟩
        clear hz8 hszm hfe HS1 HS2 HS HEE
        go_wp2_with fail
        refine (HSO.out _).mono ?_
        rintro e9 w2 ⟨rfl, b2⟩
        have HB2 : Hid (Below w.heap.size w w2) := HB1.out.trans (b2.mono HB1.out.size)
        have HO2 : Hid (w2.ownsRow (w.heap.size + 3) 54 8 (.slice (some ⟨g, 0, none⟩) l.length oc) l.length (l.flatMap pvC)) := own_below HO1.out b2
        have HZ2 : Hid (CellsAt w2 (w.heap.size + 1) 27 #[.int .i64 0, .int .i64 0, .slice none 0 0, .slice none 0 0]) := CellsAt.below HZ1.out b2 HZ1.out.lt
        have HC2 : Hid (CellsAt w2 (w.heap.size + 2) 27 #[.int .i64 ma, .int .i64 mi, .slice qe lk je, .slice (some ⟨g, 0, none⟩) l.length oc]) := CellsAt.below HC1.out b2 HC1.out.lt
        clear b2 HSO HB1 HO1 HZ1 HC1
        go_wp2_with fail
        go_roundg (l.length - (k + 1))
        case measure =>
          have := HGK.out
          omega
        case rel => exact ⟨k + 1, e + (z8 : Int), (rfl : l.length - (k + 1) = l.length - (k + 1)), by omega, by go_num, by go_num, HE2, (by have := HS3.out; rw [HZ8.out] at this; exact this), HO2, HZ2, HC2, HB2⟩
      · have HS3 : Hid (stepFrom 0 (l.map PV.plc) = some ((l.set k (PV.at ⟨⟨N, xa, xi, T, es, is, ps⟩, .slice pe es.length ke, .slice pi is.length ki, .slice pp ps.length kp, fi⟩ e)).map PV.plc)) := HS2.out hfe
        have hfe' : (fi != e) = true := by simpa using hfe
        have g7 := HO1.out.frozenAt (k * 8 + 7)
        clear HS1 HS2 HS hfe hszm
        go_wp2
        obtain ⟨hO9, hG9⟩ := own_first HO1.out HX.out e
        have hZ7 := cells_beside HZ1.out HO1.out (by decide) hG9
        have hB7 := HB1.out.grown hG9 HB1.out.size (fun q hq => by have := own_block HO1.out g rfl; obtain rfl := Option.some.inj hq; omega)
        have hZ9 := sets4 hZ7 (.int .i64 ma) (.int .i64 mi) (.slice qe lk je) (.slice (some ⟨g, 0, none⟩) l.length oc)
        have hGz := sets4_grown (wr.setCell ⟨g, k * 8 + 7, none⟩ (.int .i64 e)) (w.heap.size + 1) (.int .i64 ma) (.int .i64 mi) (.slice qe lk je) (.slice (some ⟨g, 0, none⟩) l.length oc)
        have hB9 := hB7.grown hGz hB7.size (fun q hq => by obtain rfl := Option.some.inj hq; omega)
        have hO10 := hO9.kept hGz (.inr (own_ne_cells hO9 hZ7 (by decide)))
        have hsr := HSR.out
        have hsr2 : stepRes (l.map PV.plc) = ((l.set k (PV.at ⟨⟨N, xa, xi, T, es, is, ps⟩, .slice pe es.length ke, .slice pi is.length ki, .slice pp ps.length kp, fi⟩ e)).map PV.plc, true) := by unfold stepRes; rw [HS3.out]
        rw [hsr2] at hsr
        injection hsr with hq1 hq2
        subst hq1 hq2
        refine bodyPost_ret (results_cell_tmp_row rfl _ _ _ _ _ _ _ rfl hZ9 Tryz.underlying27 rfl (by kernel_rfl)) rfl ?_
        refine ⟨⟨_, rfl, l.set k (PV.at ⟨⟨N, xa, xi, T, es, is, ps⟩, .slice pe es.length ke, .slice pi is.length ki, .slice pp ps.length kp, fi⟩ e), rfl, ?_, _, _, rfl, (HE0.out.below hB9).more hB9.size, ⟨own_rows (C := pvC) (cells := PV.cell) (sz := 8) (fun _ => rfl) pvC_at (by rw [List.length_set]; exact hO10) (by rw [List.length_set]; omega), fun y hy => ?_⟩⟩, hB9⟩
        · rw [List.map_set]
          apply List.ext_getElem?
          intro i
          rw [List.getElem?_set]
          by_cases hij : k = i
          · subst hij
            rw [if_pos rfl, if_pos (by rw [List.length_map]; exact hlt), List.getElem?_map, HX.out]
            rfl
          · rw [if_neg hij]
        · rcases List.mem_or_eq_of_mem_set hy with hy | rfl
          · exact ((HAT.out y hy).below hB9).more hB9.size
          · have := (HXA.out.below hB9).more hB9.size
            exact ⟨this.1, this.2.1, this.2.2⟩
    · obtain rfl : k = l.length := by omega
      have HS3 : Hid (stepFrom 0 (l.map PV.plc) = none) := by
        have := HS.out
        rw [List.drop_length] at this
        exact this
      clear HS HE
      go_wp2
      have hZ9 := sets4 HZ1.out (.int .i64 ma) (.int .i64 mi) (.slice qe lk je) (.slice oa l.length oc)
      have hGz := sets4_grown wr (w.heap.size + 1) (.int .i64 ma) (.int .i64 mi) (.slice qe lk je) (.slice oa l.length oc)
      have hB9 := HB1.out.grown hGz HB1.out.size (fun q hq => by obtain rfl := Option.some.inj hq; omega)
      have hO10 := HO1.out.kept hGz (.inr (own_ne_cells HO1.out HZ1.out (by decide)))
      have hsr := HSR.out
      have hsr2 : stepRes (l.map PV.plc) = (l.map PV.plc, false) := by unfold stepRes; rw [HS3.out]
      rw [hsr2] at hsr
      injection hsr with hq1 hq2
      subst hq1 hq2
      refine bodyPost_ret (results_cell_tmp_row rfl _ _ _ _ _ _ _ rfl hZ9 Tryz.underlying27 rfl (by kernel_rfl)) rfl ?_
      exact ⟨⟨_, l, rfl, rfl, rfl, _, _, rfl, (HE0.out.below hB9).more hB9.size, ⟨own_rows (C := pvC) (cells := PV.cell) (sz := 8) (fun _ => rfl) pvC_at hO10 (by omega), fun y hy => ((HAT.out y hy).below hB9).more hB9.size⟩⟩, hB9⟩

end Go.Proofs.YthmohjgdcjafkaeGreat

/- The contract of the document's PackOf. -/
namespace Go.Proofs.YthmohjgdcjafkaeGreat
open Go.RowKit Go.PlainAid Go.Lib

set_option maxRecDepth 100000

theorem reg_cells4 {W : World} {B : Nat} {t : TypeId} {x y : Int} {p q : Option Addr} {a b c d : Nat} (h : CellsAt W B t #[.int .i64 x, .int .i64 y, .slice p a b, .slice q c d]) (off : Nat) :
    (∀ s, W.cell? ⟨B, off, none⟩ ≠ some (.string s)) ∧ ∀ a b c, W.cell? ⟨B, off, none⟩ = some (.int .i64 a) → W.cell? ⟨B, off + 1, none⟩ = some (.int .i64 b) → W.cell? ⟨B, off + 2, none⟩ ≠ some (.int .i64 c) := by
  have c0 := h.cell off
  have c1 := h.cell (off + 1)
  have c2 := h.cell (off + 2)
  rw [c0, c1, c2]
  match off with
  | 0 => simp
  | 1 => simp
  | 2 => simp
  | 3 => simp
  | k + 4 => simp
theorem IsReg.apart4 {n : Nat} {W W' : World} {v : Value} {K : Ker} {l : List PV} (h : IsReg n W v K l) {B : Nat} {t : TypeId} (hg : W.grownBy W' (some B)) (hn : n ≤ W.heap.size) {x y : Int} {p q : Option Addr} {a b c d : Nat} (hB : CellsAt W B t #[.int .i64 x, .int .i64 y, .slice p a b, .slice q c d]) : IsReg n W' v K l := by
  obtain ⟨ve, vl, e, h1, h2, h3⟩ := h
  refine ⟨ve, vl, e, h1.apart hg hn ?_, h2.apart hg hn ?_, fun x hx => ?_⟩
  · intro off x _ hc
    exact (reg_cells4 hB off).1 _ (hc 0 (by omega))
  · intro off x _ hc
    exact (reg_cells4 hB off).1 _ (hc 0 (by omega))
  · obtain ⟨g1, g2, g3⟩ := h3 x hx
    refine ⟨g1.apart hg hn ?_, g2.apart hg hn ?_, g3.apart hg hn ?_⟩
    · intro off x _ hc
      exact (reg_cells4 hB off).1 _ (hc 0 (by omega))
    · intro off x _ hc
      exact (reg_cells4 hB off).1 _ (hc 0 (by omega))
    · intro off x _ hc
      exact (reg_cells4 hB off).2 _ _ _ (hc 0 (by omega)) (hc 1 (by omega)) (hc 2 (by omega))
theorem IsReg.shape {n : Nat} {W : World} {v : Value} {K : Ker} {l : List PV} (h : IsReg n W v K l) : ∃ q j a c, v = .agg #[.int .i64 K.major, .int .i64 K.minor, .slice q K.exps.length j, .slice a l.length c] := by
  obtain ⟨ve, vl, rfl, ⟨q, j, rfl, _, _⟩, ⟨⟨a, c, rfl, _, _⟩, _⟩⟩ := h
  exact ⟨q, j, a, c, rfl⟩

set_option maxHeartbeats 16000000 in
theorem packOf_any (K : Ker) (l : List PV) (v : Value) (w : World) (hreg : IsReg w.heap.size w v K l) (h0 : chkRg K (l.map PV.plc) = 0) :
    Calls Tryz.prog 26 #[v] w fun e w' => (∃ (v' : Value) (l' : List PV), e = .returned (.tuple #[v', .int .i64 (offFrom 0 (l.map PV.plc) : Int)]) ∧ l'.map PV.plc = packFrom 0 (l.map PV.plc) ∧ l'.map (·.mod) = l.map (·.mod) ∧ IsReg w'.heap.size w' v' K l') ∧ Below w.heap.size w w' := by
  have HST : Hid (∀ (l1 : List PV) v W, IsReg W.heap.size W v K l1 → chkRg K (l1.map PV.plc) = 0 → Calls Tryz.prog 25 #[v] W fun e w' => (∃ (v' : Value) (l' : List PV), e = .returned (.tuple #[v', .bool (stepRes (l1.map PV.plc)).2]) ∧ l'.map PV.plc = (stepRes (l1.map PV.plc)).1 ∧ l'.map (·.mod) = l1.map (·.mod) ∧ IsReg w'.heap.size w' v' K l') ∧ Below W.heap.size W w') := fun l1 v W h1 h2 => by
    have h3 := (rg_lens h2).2.2.2
    refine stepOf_any K l1 v W h1 (reg_lens h3).1 fun x hx => ?_
    have := chkMod_exps ((chkReg_zero.1 h3).2.1 x.plc (List.mem_map_of_mem hx))
    exact this.2.1
  have HSN : Hid (∀ L L' : List Plc, chkRg K L = 0 → stepFrom 0 L = some L' → chkRg K L' = 0) := fun L L' h1 h2 => step_right h1 h2
  have hlen : l.length ≤ 255 := (rg_lens h0).2.1
  have hol := off_len (l.map PV.plc) 0
  rw [List.length_map] at hol
  have HOF : Hid (offFrom 0 (l.map PV.plc) ≤ 255) := by show _ ≤ _; omega
  obtain ⟨qe, je, a, cap, rfl⟩ := hreg.shape
  have H0 : Hid (chkRg K (l.map PV.plc) = 0) := h0
  clear hol hlen h0
  have HB1 : Hid (Below w.heap.size w ((w.alloc (.cells #[.int .i64 K.major, .int .i64 K.minor, .slice qe K.exps.length je, .slice a l.length cap] 27)).alloc (.cells #[.int .i64 0, .int .i64 0, .slice none 0 0, .slice none 0 0] 27))) := ((Below.refl _ _).alloc (Nat.le_refl _) _).alloc (by simp) _
  have HR1 : Hid (CellsAt ((w.alloc (.cells #[.int .i64 K.major, .int .i64 K.minor, .slice qe K.exps.length je, .slice a l.length cap] 27)).alloc (.cells #[.int .i64 0, .int .i64 0, .slice none 0 0, .slice none 0 0] 27)) w.heap.size 27 #[.int .i64 K.major, .int .i64 K.minor, .slice qe K.exps.length je, .slice a l.length cap]) := (CellsAt.new _ _ _).kept (World.grownBy_alloc _ _ none) (by simp)
  have HZ1 : Hid (CellsAt ((w.alloc (.cells #[.int .i64 K.major, .int .i64 K.minor, .slice qe K.exps.length je, .slice a l.length cap] 27)).alloc (.cells #[.int .i64 0, .int .i64 0, .slice none 0 0, .slice none 0 0] 27)) (w.heap.size + 1) 27 #[.int .i64 0, .int .i64 0, .slice none 0 0, .slice none 0 0]) := by
    have := CellsAt.new (w.alloc (.cells #[.int .i64 K.major, .int .i64 K.minor, .slice qe K.exps.length je, .slice a l.length cap] 27)) 27 #[.int .i64 0, .int .i64 0, .slice none 0 0, .slice none 0 0]
    rw [World.size_alloc] at this
    exact this
  have HI1 : Hid (IsReg ((w.alloc (.cells #[.int .i64 K.major, .int .i64 K.minor, .slice qe K.exps.length je, .slice a l.length cap] 27)).alloc (.cells #[.int .i64 0, .int .i64 0, .slice none 0 0, .slice none 0 0] 27)).heap.size ((w.alloc (.cells #[.int .i64 K.major, .int .i64 K.minor, .slice qe K.exps.length je, .slice a l.length cap] 27)).alloc (.cells #[.int .i64 0, .int .i64 0, .slice none 0 0, .slice none 0 0] 27)) (.agg #[.int .i64 K.major, .int .i64 K.minor, .slice qe K.exps.length je, .slice a l.length cap]) K l) := (hreg.below HB1.out).more HB1.out.size
  clear hreg
  generalize hlk : K.exps.length = lk at *
  have HLK : Hid (K.exps.length = lk) := hlk
  clear hlk
  go_enter Tryz.func26, Tryz.ntmps26
  go_wp2_with fail
  generalize ((w.alloc (.cells #[.int .i64 K.major, .int .i64 K.minor, .slice qe lk je, .slice a l.length cap] 27)).alloc (.cells #[.int .i64 0, .int .i64 0, .slice none 0 0, .slice none 0 0] 27)) = w1 at *
  go_loopg [4] (offFrom 0 (l.map PV.plc)) (fun gk s4 wr => ∃ (l1 : List PV) (many : Nat) (q : Option Addr) (j : Nat) (b : Option Addr) (c : Nat), s4 = .int .i64 many ∧ Hid (gk = offFrom 0 (l1.map PV.plc)) ∧ Hid (gk + many = offFrom 0 (l.map PV.plc)) ∧ Hid (packFrom 0 (l1.map PV.plc) = packFrom 0 (l.map PV.plc)) ∧ Hid (l1.map (·.mod) = l.map (·.mod)) ∧ Hid (chkRg K (l1.map PV.plc) = 0) ∧ Hid (CellsAt wr w.heap.size 27 #[.int .i64 K.major, .int .i64 K.minor, .slice q lk j, .slice b l1.length c]) ∧ Hid (IsReg wr.heap.size wr (.agg #[.int .i64 K.major, .int .i64 K.minor, .slice q lk j, .slice b l1.length c]) K l1) ∧ Hid (CellsAt wr (w.heap.size + 1) 27 #[.int .i64 0, .int .i64 0, .slice none 0 0, .slice none 0 0]) ∧ Hid (Below w.heap.size w wr))
  case atStart => exact ⟨l, 0, qe, je, a, cap, rfl, (rfl : _ = _), (rfl : _ = _), (rfl : _ = _), (rfl : _ = _), H0, HR1, HI1, HZ1, HB1⟩
  case round =>
    obtain ⟨l1, many, q, j, b, c, rfl, HGK, HGM, HPK, HMM, HC0, HR2, HI2, HZ2, HB2⟩ := hrel
    clear HR1 HI1 HZ1 HB1 H0
    have r0 := CellsAt.cell HR2.out 0
    have r1 := CellsAt.cell HR2.out 1
    have r2 := CellsAt.cell HR2.out 2
    have r3 := CellsAt.cell HR2.out 3
    have rl := CellsAt.lt HR2.out
    simp at r0 r1 r2 r3
    go_wp2_with fail
    refine (HST.out l1 _ wr HI2.out HC0.out).mono ?_
    rintro e w3 ⟨⟨v', l', rfl, hpl, hmm, hi3⟩, b3⟩
    obtain ⟨q', j', b', c', rfl⟩ := hi3.shape
    rw [HLK.out] at hi3 ⊢
    have HI3 : Hid (IsReg w3.heap.size w3 (.agg #[.int .i64 K.major, .int .i64 K.minor, .slice q' lk j', .slice b' l'.length c']) K l') := hi3
    have HB3 : Hid (Below w.heap.size w w3) := HB2.out.trans (b3.mono HB2.out.size)
    have HR3 : Hid (CellsAt w3 w.heap.size 27 #[.int .i64 K.major, .int .i64 K.minor, .slice q lk j, .slice b l1.length c]) := CellsAt.below HR2.out b3 HR2.out.lt
    have HZ3 : Hid (CellsAt w3 (w.heap.size + 1) 27 #[.int .i64 0, .int .i64 0, .slice none 0 0, .slice none 0 0]) := CellsAt.below HZ2.out b3 HZ2.out.lt
    have HI3r : Hid (IsReg w3.heap.size w3 (.agg #[.int .i64 K.major, .int .i64 K.minor, .slice q lk j, .slice b l1.length c]) K l1) := (HI2.out.below b3).more b3.size
    have HM3 : Hid (l'.map (·.mod) = l.map (·.mod)) := hmm.trans HMM.out
    clear b3 hi3 hmm HR2 HZ2 HI2 HB2 r0 r1 r2 r3 rl
    cases hs : stepFrom 0 (l1.map PV.plc) with
    | none =>
      have hr : stepRes (l1.map PV.plc) = (l1.map PV.plc, false) := by unfold stepRes; rw [hs]
      obtain ⟨n1, n2⟩ := step_none hs
      rw [hr]
      have HPL : Hid (l1.map PV.plc = packFrom 0 (l.map PV.plc)) := n1.symm.trans HPK.out
      have HMN : Hid ((many : Int) = (offFrom 0 (l.map PV.plc) : Int)) := by
        have h1 := HGK.out
        have h2 := HGM.out
        show (many : Int) = _
        omega
      clear hs hr n1 n2 hpl HGK HGM HPK HST HSN
      have HW4 : Hid (CellsAt (w3.alloc (.cells #[.int .i64 K.major, .int .i64 K.minor, .slice q' lk j', .slice b' l'.length c'] 27)) w.heap.size 27 #[.int .i64 K.major, .int .i64 K.minor, .slice q lk j, .slice b l1.length c]) := HR3.out.kept (World.grownBy_alloc _ _ none) (by simp)
      have HZ4 : Hid (CellsAt (w3.alloc (.cells #[.int .i64 K.major, .int .i64 K.minor, .slice q' lk j', .slice b' l'.length c'] 27)) (w.heap.size + 1) 27 #[.int .i64 0, .int .i64 0, .slice none 0 0, .slice none 0 0]) := HZ3.out.kept (World.grownBy_alloc _ _ none) (by simp)
      have HB4 : Hid (Below w.heap.size w (w3.alloc (.cells #[.int .i64 K.major, .int .i64 K.minor, .slice q' lk j', .slice b' l'.length c'] 27))) := HB3.out.alloc HB3.out.size _
      have HI4 : Hid (IsReg (w3.alloc (.cells #[.int .i64 K.major, .int .i64 K.minor, .slice q' lk j', .slice b' l'.length c'] 27)).heap.size (w3.alloc (.cells #[.int .i64 K.major, .int .i64 K.minor, .slice q' lk j', .slice b' l'.length c'] 27)) (.agg #[.int .i64 K.major, .int .i64 K.minor, .slice q lk j, .slice b l1.length c]) K l1) := (HI3r.out.below ((Below.refl _ _).alloc (Nat.le_refl _) _)).more (by simp)
      go_upto_region 4 with fail
      generalize (w3.alloc (.cells #[.int .i64 K.major, .int .i64 K.minor, .slice q' lk j', .slice b' l'.length c'] 27)) = w4 at *
      have r0 := CellsAt.cell HW4.out 0
      have r1 := CellsAt.cell HW4.out 1
      have r2 := CellsAt.cell HW4.out 2
      have r3 := CellsAt.cell HW4.out 3
      have rl := CellsAt.lt HW4.out
      have z0 := CellsAt.cell HZ4.out 0
      have z1 := CellsAt.cell HZ4.out 1
      have z2 := CellsAt.cell HZ4.out 2
      have z3 := CellsAt.cell HZ4.out 3
      have f0 := CellsAt.frozen HZ4.out 0
      have f1 := CellsAt.frozen HZ4.out 1
      have f2 := CellsAt.frozen HZ4.out 2
      have f3 := CellsAt.frozen HZ4.out 3
      have zl := CellsAt.lt HZ4.out
      simp at r0 r1 r2 r3 z0 z1 z2 z3
      clear HR3 HZ3 HB3 HI3 HI3r
      go_wp2
      have hZ9 := sets4 HZ4.out (.int .i64 K.major) (.int .i64 K.minor) (.slice q lk j) (.slice b l1.length c)
      have hGz := sets4_grown w4 (w.heap.size + 1) (.int .i64 K.major) (.int .i64 K.minor) (.slice q lk j) (.slice b l1.length c)
      have hB9 := HB4.out.grown hGz HB4.out.size (fun q hq => by obtain rfl := Option.some.inj hq; omega)
      refine bodyPost_ret (results_cell_tmp_row rfl _ _ _ _ _ _ _ rfl hZ9 Tryz.underlying27 rfl (by kernel_rfl)) rfl ?_
      rw [← HMN.out]
      exact ⟨⟨_, l1, rfl, HPL.out, HMM.out, (HI4.out.apart4 hGz (Nat.le_refl _) HZ4.out).more hGz.size⟩, hB9⟩
    | some L' =>
      have hr : stepRes (l1.map PV.plc) = (L', true) := by unfold stepRes; rw [hs]
      obtain ⟨n1, n2, _⟩ := step_some hs
      rw [hr] at hpl ⊢
      dsimp only at hpl
      have HR5 : Hid (chkRg K (l'.map PV.plc) = 0) := by
        show chkRg _ _ = 0
        rw [hpl]
        exact HSN.out _ _ HC0.out hs
      have HPL : Hid (packFrom 0 (l'.map PV.plc) = packFrom 0 (l.map PV.plc)) := by
        show packFrom _ _ = _
        rw [hpl, n1]
        exact HPK.out
      have HO2 : Hid (offFrom 0 (l1.map PV.plc) = offFrom 0 (l'.map PV.plc) + 1) := by
        show _ = _
        rw [hpl]
        exact n2
      have hmb : many ≤ 255 := by
        have h2 := HGM.out
        have h3 := HOF.out
        omega
      clear hs hr n1 n2 hpl HPK HI3r HST HSN
      have HW4 : Hid (CellsAt (w3.alloc (.cells #[.int .i64 K.major, .int .i64 K.minor, .slice q' lk j', .slice b' l'.length c'] 27)) w.heap.size 27 #[.int .i64 K.major, .int .i64 K.minor, .slice q lk j, .slice b l1.length c]) := HR3.out.kept (World.grownBy_alloc _ _ none) (by simp)
      have HZ4 : Hid (CellsAt (w3.alloc (.cells #[.int .i64 K.major, .int .i64 K.minor, .slice q' lk j', .slice b' l'.length c'] 27)) (w.heap.size + 1) 27 #[.int .i64 0, .int .i64 0, .slice none 0 0, .slice none 0 0]) := HZ3.out.kept (World.grownBy_alloc _ _ none) (by simp)
      have HB4 : Hid (Below w.heap.size w (w3.alloc (.cells #[.int .i64 K.major, .int .i64 K.minor, .slice q' lk j', .slice b' l'.length c'] 27))) := HB3.out.alloc HB3.out.size _
      have HX4 : Hid (CellsAt (w3.alloc (.cells #[.int .i64 K.major, .int .i64 K.minor, .slice q' lk j', .slice b' l'.length c'] 27)) w3.heap.size 27 #[.int .i64 K.major, .int .i64 K.minor, .slice q' lk j', .slice b' l'.length c']) := CellsAt.new _ _ _
      have HI4 : Hid (IsReg (w3.alloc (.cells #[.int .i64 K.major, .int .i64 K.minor, .slice q' lk j', .slice b' l'.length c'] 27)).heap.size (w3.alloc (.cells #[.int .i64 K.major, .int .i64 K.minor, .slice q' lk j', .slice b' l'.length c'] 27)) (.agg #[.int .i64 K.major, .int .i64 K.minor, .slice q' lk j', .slice b' l'.length c']) K l') := (HI3.out.below ((Below.refl _ _).alloc (Nat.le_refl _) _)).more (by simp)
      have HLT : Hid (w.heap.size + 1 < w3.heap.size) := HZ3.out.lt
      go_upto_region 5 with fail
      generalize (w3.alloc (.cells #[.int .i64 K.major, .int .i64 K.minor, .slice q' lk j', .slice b' l'.length c'] 27)) = w4 at *
      generalize w3.heap.size = g5 at *
      have r0 := CellsAt.cell HX4.out 0
      have r1 := CellsAt.cell HX4.out 1
      have r2 := CellsAt.cell HX4.out 2
      have r3 := CellsAt.cell HX4.out 3
      have rl := CellsAt.lt HX4.out
      have z0 := CellsAt.cell HW4.out 0
      have z1 := CellsAt.cell HW4.out 1
      have z2 := CellsAt.cell HW4.out 2
      have z3 := CellsAt.cell HW4.out 3
      have f0 := CellsAt.frozen HW4.out 0
      have f1 := CellsAt.frozen HW4.out 1
      have f2 := CellsAt.frozen HW4.out 2
      have f3 := CellsAt.frozen HW4.out 3
      have zl := CellsAt.lt HW4.out
      simp at r0 r1 r2 r3 z0 z1 z2 z3
      clear HR3 HZ3 HB3 HI3
      go_wp2_with fail
      have hW9 := sets4 HW4.out (.int .i64 K.major) (.int .i64 K.minor) (.slice q' lk j') (.slice b' l'.length c')
      have hG9 := sets4_grown w4 w.heap.size (.int .i64 K.major) (.int .i64 K.minor) (.slice q' lk j') (.slice b' l'.length c')
      have hB9 := HB4.out.grown hG9 HB4.out.size (fun q hq => by obtain rfl := Option.some.inj hq; omega)
      have hZ9 := HZ4.out.kept hG9 (by intro e; have := Option.some.inj e; omega)
      have hI9 := (HI4.out.apart4 hG9 (Nat.le_refl _) HW4.out).more hG9.size
      clear r0 r1 r2 r3 z0 z1 z2 z3 f0 f1 f2 f3
      go_roundg (offFrom 0 (l'.map PV.plc))
      case measure =>
        have h1 := HGK.out
        have h2 := HO2.out
        omega
      case rel => exact ⟨l', many + 1, q', j', b', c', (by rw [show ((many + 1 : Nat) : Int) = (many : Int) + 1 by omega]), (rfl : _ = _), (by have h1 := HGK.out; have h2 := HO2.out; have h3 := HGM.out; show _ = _; omega), HPL, HM3, HR5, hW9, hI9, hZ9, hB9⟩

end Go.Proofs.YthmohjgdcjafkaeGreat

/- The contract of the document's AddressOf. -/
namespace Go.Proofs.YthmohjgdcjafkaeGreat
open Go.RowKit Go.PlainAid

set_option maxRecDepth 100000

/-- An address, when what is meant is known. -/
theorem addrOf_tgt {K : Ker} {l : List Plc} {i : Imp} {t : Tgt} (h : tgtOf K l i.mod = some t) : (t.major ≠ i.major ∧ addrOf K l i = (0, 4)) ∨ (t.major = i.major ∧ t.minor < i.minor ∧ addrOf K l i = (0, 4)) ∨
    (t.major = i.major ∧ i.minor ≤ t.minor ∧ (expOf t.exps i.name = none ∧ addrOf K l i = (0, 5) ∨ ∃ x, expOf t.exps i.name = some x ∧ addrOf K l i = (t.beg + x.pos, 0))) := by
  rcases addrOf_cases K l i with ⟨h1, _⟩ | ⟨t', h1, h2⟩
  · rw [h] at h1; cases h1
  · rw [h] at h1
    rw [← Option.some.inj h1] at h2
    exact h2

set_option maxHeartbeats 4000000 in
theorem addressOf_any (K : Ker) (vk : Value) (l : List PV) (v : Value) (i : Imp) (w : World) (hK : IsKer w.heap.size w vk K) (hrow : IsPlcs w.heap.size w v l) (h0 : chkFind K (l.map PV.plc) = 0) :
    Calls Tryz.prog 146 #[vk, v, .agg #[.string i.mod, .string i.name, .int .i64 i.major, .int .i64 i.minor]] w fun e w' => e = .returned (.tuple #[.int .i64 (addrOf K (l.map PV.plc) i).1, .int .i64 (addrOf K (l.map PV.plc) i).2]) ∧ Below w.heap.size w w' := by
  have HX : Hid (∀ (es : List Exp) (ve : Value) W, Below w.heap.size w W → RowOf 2 Exp.cell w.heap.size w ve es → Calls Tryz.prog 164 #[ve, .string i.name] W fun e w' => e = .returned (.int .i64 (posOf (expOf es i.name))) ∧ Below W.heap.size W w') :=
    fun es ve W hb hr => exportAt_any es ve i.name W ((hr.below hb).more hb.size)
  have HP : Hid (∀ W, Below w.heap.size w W → Calls Tryz.prog 45 #[v, .string i.mod] W fun e w' => e = .returned (.int .i64 (idxFrom (fun x : PV => x.mod.name == i.mod) 0 l)) ∧ Below W.heap.size W w') :=
    fun W hb => placeOf_any l v i.mod W ((hrow.1.below hb).more hb.size)
  obtain ⟨vke, rfl, hE⟩ := hK
  have hE0 := hE
  obtain ⟨pe, ke, rfl, _, _⟩ := hE
  have hat := hrow.2
  obtain ⟨⟨a, cap, rfl, _, hrow⟩, _⟩ := hrow
  have hbd := fun t (ht : tgtOf K (l.map PV.plc) i.mod = some t) => tgt_bd h0 ht
  have hfst : ∀ x ∈ l, 0 ≤ x.first ∧ x.first ≤ 15 := fun x hx => by
    have := (chkFind_zero h0).2.2 x.plc (List.mem_map_of_mem hx)
    exact ⟨this.2.1, this.2.2⟩
  have hcase := tgt_cases K l i.mod
  have hidx := idx_find (fun x : PV => x.mod.name == i.mod) l 0
  have hnone : tgtOf K (l.map PV.plc) i.mod = none → addrOf K (l.map PV.plc) i = (0, 5) := fun h => by unfold addrOf; rw [h]
  have hsome := fun t (ht : tgtOf K (l.map PV.plc) i.mod = some t) => addrOf_tgt ht
  generalize addrOf K (l.map PV.plc) i = R at *
  generalize tgtOf K (l.map PV.plc) i.mod = TT at *
  generalize idxFrom (fun x : PV => x.mod.name == i.mod) 0 l = IX at *
  generalize hfd : l.find? (fun x : PV => x.mod.name == i.mod) = FD at *
  obtain ⟨ma, mi, es⟩ := K
  obtain ⟨im, inm, ia, ib⟩ := i
  dsimp only at *
  clear h0
  have HW2 : Hid (Below w.heap.size w ((w.alloc (.cells #[.int .i64 ma, .int .i64 mi, .slice pe es.length ke] 24)).alloc (.cells #[.string im, .string inm, .int .i64 ia, .int .i64 ib] 100))) := ((Below.refl _ _).alloc (Nat.le_refl _) _).alloc (by simp) _
  have HC2 : Hid (CellsAt ((w.alloc (.cells #[.int .i64 ma, .int .i64 mi, .slice pe es.length ke] 24)).alloc (.cells #[.string im, .string inm, .int .i64 ia, .int .i64 ib] 100)) (w.heap.size + 1) 100 #[.string im, .string inm, .int .i64 ia, .int .i64 ib]) := by
    have := CellsAt.new (w.alloc (.cells #[.int .i64 ma, .int .i64 mi, .slice pe es.length ke] 24)) 100 #[.string im, .string inm, .int .i64 ia, .int .i64 ib]
    rw [World.size_alloc] at this
    exact this
  rcases hcase with ⟨g1, rfl⟩ | ⟨g1, ⟨rfl, rfl⟩ | ⟨x, rfl, rfl⟩⟩
  · rw [← kern_form] at g1
    have HXE := fun W hb => HX.out es _ W hb hE0
    obtain ⟨q1, q2, q3, q4⟩ := hbd _ rfl
    have HXF : Hid (∀ W, Below w.heap.size w W → Calls Tryz.prog 164 #[.slice pe es.length ke, .string inm] W fun e w' => e = .returned (.int .i64 (posOf (expOf es inm))) ∧ Below W.heap.size W w') := HXE
    have key := hsome _ rfl
    dsimp only at key q1 q2 q3 q4
    rcases key with ⟨h1, rfl⟩ | ⟨rfl, h2, rfl⟩ | ⟨rfl, h2, ⟨h3, rfl⟩ | ⟨x, h3, rfl⟩⟩
    · have h1' : (ma != ia) = true := by simpa using h1
      clear HX HP HXE HXF hbd hsome hidx hnone
      go_enter Tryz.func146, Tryz.ntmps146
      go_wp2
      go_ret2
      exact ⟨rfl, HW2.out⟩
    · clear HX HP HXE HXF hbd hsome hidx hnone
      go_enter Tryz.func146, Tryz.ntmps146
      go_wp2
      go_ret2
      exact ⟨rfl, HW2.out⟩
    · rw [h3] at HXF
      dsimp only [posOf] at HXF
      clear HX HP HXE hbd hsome hidx hnone
      go_enter Tryz.func146, Tryz.ntmps146
      go_wp2_with fail
      refine (HXF.out _ HW2.out).mono ?_
      rintro _ w3 ⟨rfl, b3⟩
      go_wp2
      go_ret2
      exact ⟨rfl, HW2.out.trans (b3.mono HW2.out.size)⟩
    · rw [h3] at HXF
      dsimp only [posOf] at HXF
      obtain ⟨m1, m2, m3⟩ := q4 x (List.mem_of_find?_eq_some h3)
      clear HX HP HXE hbd hsome hidx hnone q4 h3
      go_enter Tryz.func146, Tryz.ntmps146
      go_wp2_with fail
      refine (HXF.out _ HW2.out).mono ?_
      rintro _ w3 ⟨rfl, b3⟩
      go_wp2
      go_ret2
      exact ⟨by rw [show 0 + x.pos = x.pos from by omega]; rfl, HW2.out.trans (b3.mono HW2.out.size)⟩
  · rw [← kern_form] at g1
    have hR := hnone rfl
    subst hR
    have hIX : IX = -1 := by
      rcases hidx with ⟨_, h⟩ | ⟨j, x, h, _⟩
      · exact h
      · cases h
    subst hIX
    clear HX hbd hsome hidx hnone
    go_enter Tryz.func146, Tryz.ntmps146
    go_wp2_with fail
    refine (HP.out _ HW2.out).mono ?_
    rintro _ w3 ⟨rfl, b3⟩
    go_wp2
    go_ret2
    exact ⟨rfl, HW2.out.trans (b3.mono HW2.out.size)⟩
  · rw [← kern_form] at g1
    obtain ⟨j, hj, hIX⟩ : ∃ j : Nat, l[j]? = some x ∧ IX = j := by
      rcases hidx with ⟨h, _⟩ | ⟨j, x', h, h2, h3⟩
      · cases h
      · rw [← Option.some.inj h] at h2
        exact ⟨j, h2, by simpa using h3⟩
    subst hIX
    obtain ⟨q1, q2, q3, q4⟩ := hbd _ rfl
    have hx := List.mem_of_getElem? hj
    obtain ⟨f1, f2⟩ := hfst x hx
    have hlt : j < l.length := (List.getElem?_eq_some_iff.1 hj).1
    rcases hrow with h | ⟨b, off, rfl, hbn, hcells⟩
    · subst h; simp at hlt
    have hXR := (hat x hx).1
    obtain ⟨⟨qe, je, e4, _⟩, ⟨qi, ji, e5, _⟩, ⟨qp, jp, e6, _⟩⟩ := hat x hx
    obtain ⟨⟨N, xa, xi, T, xs, is, ps⟩, ve, vi, vp, fi⟩ := x
    dsimp only at *
    subst e4 e5 e6
    have HXF : Hid (∀ W, Below w.heap.size w W → Calls Tryz.prog 164 #[.slice qe xs.length je, .string inm] W fun e w' => e = .returned (.int .i64 (posOf (expOf xs inm))) ∧ Below W.heap.size W w') := fun W hb => HX.out xs _ W hb hXR
    have c0 := hcells j _ hj 0 (by omega)
    have c1 := hcells j _ hj 1 (by omega)
    have c2 := hcells j _ hj 2 (by omega)
    have c3 := hcells j _ hj 3 (by omega)
    have c4 := hcells j _ hj 4 (by omega)
    have c5 := hcells j _ hj 5 (by omega)
    have c6 := hcells j _ hj 6 (by omega)
    have c7 := hcells j _ hj 7 (by omega)
    dsimp only [PV.cell] at c0 c1 c2 c3 c4 c5 c6 c7
    rw [Nat.add_zero] at c0
    have key := hsome _ rfl
    dsimp only at key
    clear HX hbd hsome hidx hnone hat hXR hx hj hcells hfst hE0 hfd
    generalize is.length = li at *
    generalize ps.length = lp at *
    go_enter Tryz.func146, Tryz.ntmps146
    go_wp2_with fail
    refine (HP.out _ HW2.out).mono ?_
    rintro _ w3 ⟨rfl, b3⟩
    have B3 := HW2.out.trans (b3.mono HW2.out.size)
    have C3 := HC2.out.below b3 (by simp)
    have d0 := (B3.cell (p := ⟨b, off + j * 8, none⟩) hbn).trans c0
    have d1 := (B3.cell (p := ⟨b, off + j * 8 + 1, none⟩) hbn).trans c1
    have d2 := (B3.cell (p := ⟨b, off + j * 8 + 2, none⟩) hbn).trans c2
    have d3 := (B3.cell (p := ⟨b, off + j * 8 + 3, none⟩) hbn).trans c3
    have d4 := (B3.cell (p := ⟨b, off + j * 8 + 4, none⟩) hbn).trans c4
    have d5 := (B3.cell (p := ⟨b, off + j * 8 + 5, none⟩) hbn).trans c5
    have d6 := (B3.cell (p := ⟨b, off + j * 8 + 6, none⟩) hbn).trans c6
    have i1 := C3.cell 1
    have i2 := C3.cell 2
    have i3 := C3.cell 3
    have iz := C3.lt
    simp at i1 i2 i3
    clear b3 HW2 HC2 HP c0 c1 c2 c3 c4 c5 c6
    have HB4 : Hid (Below w.heap.size w (w3.alloc (.cells #[.string N, .int .i64 xa, .int .i64 xi, .string T, .slice qe xs.length je, .slice qi li ji, .slice qp lp jp] 31))) := B3.alloc B3.size _
    rcases key with ⟨h1, rfl⟩ | ⟨rfl, h2, rfl⟩ | ⟨rfl, h2, ⟨h3, rfl⟩ | ⟨x, h3, rfl⟩⟩
    · have h1' : (xa != ia) = true := by simpa using h1
      go_wp2
      go_ret2
      exact ⟨rfl, HB4.out⟩
    · go_wp2
      go_ret2
      exact ⟨rfl, HB4.out⟩
    · rw [h3] at HXF
      dsimp only [posOf] at HXF
      go_wp2_with fail
      refine (HXF.out _ HB4.out).mono ?_
      rintro _ w5 ⟨rfl, b5⟩
      go_wp2
      go_ret2
      exact ⟨rfl, HB4.out.trans (b5.mono HB4.out.size)⟩
    · rw [h3] at HXF
      dsimp only [posOf] at HXF
      obtain ⟨m1, m2, m3⟩ := q4 x (List.mem_of_find?_eq_some h3)
      clear q4 h3
      go_wp2_with fail
      refine (HXF.out _ HB4.out).mono ?_
      rintro _ w5 ⟨rfl, b5⟩
      have B5 := HB4.out.trans (b5.mono HB4.out.size)
      have d7 := (B5.cell (p := ⟨b, off + j * 8 + 7, none⟩) hbn).trans c7
      clear b5 HB4 HXF c7 d0 d1 d2 d3 d4 d5 d6
      go_wp2
      go_ret2
      exact ⟨by rw [show 4096 + fi * 64 + x.pos = 4096 + 64 * fi + x.pos from by omega]; rfl, B5⟩

end Go.Proofs.YthmohjgdcjafkaeGreat

/- The contract of the document's AddressesOf. -/
namespace Go.Proofs.YthmohjgdcjafkaeGreat
open Go.RowKit Go.PlainAid

set_option maxRecDepth 100000

set_option maxHeartbeats 4000000 in
theorem addressesOf_any (K : Ker) (vk : Value) (l : List PV) (v : Value) (M : Mod) (vm : Value) (w : World) (hK : IsKer w.heap.size w vk K) (hrow : IsPlcs w.heap.size w v l) (hM : IsMod w.heap.size w vm M) (h0 : chkFind K (l.map PV.plc) = 0) (hm0 : chkMod M = 0) :
    Calls Tryz.prog 125 #[vk, v, vm] w fun e w' => (∃ r, e = .returned (.tuple #[r, .int .i64 (addrsFrom K (l.map PV.plc) [] M.imps).2]) ∧ RowOf 1 intCell w'.heap.size w' r (addrsFrom K (l.map PV.plc) [] M.imps).1) ∧ Below w.heap.size w w' := by
  have HA : Hid (∀ (i : Imp) W, Below w.heap.size w W → Calls Tryz.prog 146 #[vk, v, .agg #[.string i.mod, .string i.name, .int .i64 i.major, .int .i64 i.minor]] W fun e w' => e = .returned (.tuple #[.int .i64 (addrOf K (l.map PV.plc) i).1, .int .i64 (addrOf K (l.map PV.plc) i).2]) ∧ Below W.heap.size W w') :=
    fun i W hb => addressOf_any K vk l v i W ((hK.below hb).more hb.size) ((hrow.below hb).more hb.size) h0
  obtain ⟨vke, rfl, hE⟩ := hK
  obtain ⟨pe, ke, rfl, _, _⟩ := hE
  obtain ⟨⟨a, cap, rfl, _, _⟩, _⟩ := hrow
  obtain ⟨me, mi', mp, rfl, hme, hmi, hmp⟩ := hM
  obtain ⟨qe, je, rfl, _, _⟩ := hme
  obtain ⟨qi, ji, rfl, _, hrowI⟩ := hmi
  obtain ⟨qp, jp, rfl, _, _⟩ := hmp
  have hm6 : M.imps.length ≤ 6 := (chkMod_exps hm0).2.2.2.1
  generalize hL : l.map PV.plc = L at *
  have HAD : Hid (∀ acc x r, addrsFrom K L acc (x :: r) = if (addrOf K L x).2 ≠ 0 then ([], (addrOf K L x).2) else addrsFrom K L (acc ++ [(addrOf K L x).1]) r) := fun _ _ _ => rfl
  have HAN : Hid (∀ acc, addrsFrom K L acc [] = (acc, 0)) := fun _ => rfl
  clear h0 hm0
  generalize addrsFrom K L = AF at *
  generalize addrOf K L = AO at *
  obtain ⟨ma, mi, es⟩ := K
  obtain ⟨N, xa, xi, T, xs, is, ps⟩ := M
  dsimp only at *
  clear hL L
  generalize es.length = le at *
  generalize xs.length = lx at *
  generalize ps.length = lp at *
  generalize l.length = ll at *
  have B5 : Below w.heap.size w ((w.alloc (.cells #[.int .i64 ma, .int .i64 mi, .slice pe le ke] 24)).alloc (.cells #[.string N, .int .i64 xa, .int .i64 xi, .string T, .slice qe lx je, .slice qi is.length ji, .slice qp lp jp] 31)) := ((Below.refl _ _).alloc (Nat.le_refl _) _).alloc (by simp) _
  have K5 : CellsAt ((w.alloc (.cells #[.int .i64 ma, .int .i64 mi, .slice pe le ke] 24)).alloc (.cells #[.string N, .int .i64 xa, .int .i64 xi, .string T, .slice qe lx je, .slice qi is.length ji, .slice qp lp jp] 31)) w.heap.size 24 #[.int .i64 ma, .int .i64 mi, .slice pe le ke] := (CellsAt.new w 24 #[.int .i64 ma, .int .i64 mi, .slice pe le ke]).kept (World.grownBy_alloc _ _ none) (by simp)
  have D5 : CellsAt ((w.alloc (.cells #[.int .i64 ma, .int .i64 mi, .slice pe le ke] 24)).alloc (.cells #[.string N, .int .i64 xa, .int .i64 xi, .string T, .slice qe lx je, .slice qi is.length ji, .slice qp lp jp] 31)) (w.heap.size + 1) 31 #[.string N, .int .i64 xa, .int .i64 xi, .string T, .slice qe lx je, .slice qi is.length ji, .slice qp lp jp] := by
    have := CellsAt.new (w.alloc (.cells #[.int .i64 ma, .int .i64 mi, .slice pe le ke] 24)) 31 #[.string N, .int .i64 xa, .int .i64 xi, .string T, .slice qe lx je, .slice qi is.length ji, .slice qp lp jp]
    rw [World.size_alloc] at this
    exact this
  obtain ⟨ii, hii, hz0, hz1, hz2⟩ := infoInt_parts
  go_enter Tryz.func125, Tryz.ntmps125
  go_wp2_with fail
  generalize (w.alloc (.cells #[.int .i64 ma, .int .i64 mi, .slice pe le ke] 24)).alloc (.cells #[.string N, .int .i64 xa, .int .i64 xi, .string T, .slice qe lx je, .slice qi is.length ji, .slice qp lp jp] 31) = w5 at B5 K5 D5 ⊢
  go_loopw [8, 9] (fun f i wr => ∃ (k : Nat) (acc : List Int), k ≤ is.length ∧ i = .int .i64 k ∧ acc.length = k ∧ wr.ownsRow w5.heap.size 3 1 f acc.length (acc.flatMap intC) ∧ Hid (AF [] is = AF acc (is.drop k)) ∧ Below w5.heap.size w5 wr) (fun _ i _ => is.length - (intOf i).toNat)
  case atStart => exact ⟨0, [], Nat.zero_le _, rfl, rfl, ⟨rfl, .inl ⟨rfl, rfl⟩⟩, by show AF [] is = AF [] (is.drop 0); rfl, Below.refl _ _⟩
  case round =>
    obtain ⟨k, acc, hk, rfl, hacc, hown, HCC, B⟩ := hrel
    have B' : Below w.heap.size w wr := B5.trans (B.mono B5.size)
    have HLK : Hid (acc.length = k) := hacc
    rw [hacc] at hown
    clear hacc
    obtain ⟨av, kv, rfl⟩ := own_form hown
    have DB := D5.below B D5.lt
    have d5 := DB.cell 5
    simp at d5
    by_cases hlt : k < is.length
    · obtain ⟨x, hx⟩ : ∃ x, is[k]? = some x := ⟨_, List.getElem?_eq_getElem hlt⟩
      rcases hrowI with h | ⟨b, off, rfl, hbn, hcells⟩
      · subst h; simp at hlt
      have c0 := (B'.cell (p := ⟨b, off + k * 4 + 0, none⟩) hbn).trans (hcells k _ hx 0 (by omega))
      have c1 := (B'.cell (p := ⟨b, off + k * 4 + 1, none⟩) hbn).trans (hcells k _ hx 1 (by omega))
      have c2 := (B'.cell (p := ⟨b, off + k * 4 + 2, none⟩) hbn).trans (hcells k _ hx 2 (by omega))
      have c3 := (B'.cell (p := ⟨b, off + k * 4 + 3, none⟩) hbn).trans (hcells k _ hx 3 (by omega))
      have HR : Hid (AF [] is = if (AO x).2 ≠ 0 then ([], (AO x).2) else AF (acc ++ [(AO x).1]) (is.drop (k + 1))) := by
        show AF [] is = _
        rw [HCC.out, drop_at hx, HAD.out]
      have HAx := HA.out x
      obtain ⟨xm, xn, xma, xmi⟩ := x
      dsimp only [Imp.cell] at c0 c1 c2 c3
      dsimp only at HAx
      rw [Nat.add_zero] at c0
      generalize AO ⟨xm, xn, xma, xmi⟩ = q at HR HAx
      obtain ⟨p, q⟩ := q
      dsimp only at HR HAx
      have HAX : Hid (∀ d os, _) := fun d os => HAx _ (B'.trans ((below_regrown wr d os).mono B'.size))
      clear HCC hcells hx HAx HAD HAN
      have KB := K5.below B K5.lt
      have d0 := KB.cell 0
      have d1 := KB.cell 1
      have d2 := KB.cell 2
      simp at d0 d1 d2
      have r0 := cell_regrown c0
      have r1 := cell_regrown c1
      have r2 := cell_regrown c2
      have r3 := cell_regrown c3
      have s0 := cell_regrown d0
      have s1 := cell_regrown d1
      have s2 := cell_regrown d2
      have s5 := cell_regrown d5
      clear KB DB
      go_wp2_with fail
      refine wp_region_quiet_below (by kernel_rfl) (by kernel_rfl) ?_
      repeat (quiet_step ((go_at_call 146; go_must (exact Calls.regrown_of (HAX.out _ _)))))
      refine wpQuiet_nil ?_
      intro w7 hw7
      obtain ⟨⟨dq, osq⟩, hw7⟩ := hw7
      have b7 := below_regrown wr dq osq
      rw [← hw7] at b7
      clear hw7
      have O7 := own_below hown b7
      have B7 := B'.trans (b7.mono B'.size)
      have E7 := B.trans (b7.mono B.size)
      clear b7 hown HAX c0 c1 c2 c3 d0 d1 d2 d5 r0 r1 r2 r3 s0 s1 s2 s5
      by_cases hq : q = 0
      · subst hq
        have HR' : Hid (AF [] is = AF (acc ++ [p]) (is.drop (k + 1))) := by
          show AF [] is = _
          rw [HR.out]; rfl
        have hb5 : w5.heap.size ≤ w7.heap.size := E7.size
        have ha7 : k < 7 := by omega
        clear HR
        go_wp2_with (at_builtin; refine wpList_append_lies _ rfl _ _ _ rfl w5.heap.size 3 ii _ 1 8 Tryz.underlying147 hii hz0 hz1 hz2 rfl (by omega) (.slice av k kv) k (acc.flatMap intC) rfl (O7.alloc _) ⟨w7.heap.size, 0, none⟩ 1 1 [.int .i64 p] rfl rfl (World.news_of_block (cs := #[.int .i64 p]) (t := 3) (fr := (0, 0)) (CellsAt.new w7 3 #[.int .i64 p])) (by simp [Value.oneCell']) (by omega) (by unfold maxLen; omega) (by omega) (by simp; omega) (w7.heap.size + 1) (by simp) ?_; intro g gc w8 hown8 hgrow hat hltg)
        refine ⟨⟨k + 1, acc ++ [p], by omega, by go_num, by rw [List.length_append, HLK.out]; rfl, ?_, HR'.out, ?_⟩, by simp [intOf]; omega⟩
        · rw [List.length_append, List.flatMap_append, HLK.out]
          exact hown8
        · exact (E7.alloc E7.size _).grown hgrow (by simp; omega) (fun j hj => own_block O7 j hj)
      · have hq' : (q != 0) = true := by simpa using hq
        have HR' : Hid (AF [] is = ([], q)) := by
          show AF [] is = _
          rw [HR.out, if_pos hq]
        clear HR hq
        go_wp2
        go_ret2
        exact ⟨⟨.slice none 0 0, by rw [HR'.out]; rfl, by rw [HR'.out]; exact ⟨none, 0, rfl, by simp, .inl rfl⟩⟩, B7⟩
    · obtain rfl : k = is.length := by omega
      have HZ : Hid (AF [] is = (acc, 0)) := by
        show AF [] is = (acc, 0)
        rw [HCC.out, List.drop_length, HAN.out]
      go_wp2
      go_ret2
      exact ⟨⟨_, by rw [HZ.out]; rfl, by rw [HZ.out]; exact own_ints (by rw [HLK.out]; exact hown) (by rw [HLK.out]; omega)⟩, B'⟩

end Go.Proofs.YthmohjgdcjafkaeGreat

/- The contracts of the document's CheckModules where no place is asked for, and of IsTwice. -/
namespace Go.Proofs.YthmohjgdcjafkaeGreat
open Go.RowKit Go.PlainAid

set_option maxRecDepth 100000

set_option maxHeartbeats 2000000 in
theorem checkPlain_any (l : List PV) (v : Value) (w : World) (hrow : IsPlcs w.heap.size w v l) (hfit : ∀ x ∈ l, x.mod.fits) :
    Calls Tryz.prog 124 #[v, .bool false, .bool false] w fun e w' => e = .returned (.int .i64 (plainErr (l.map PV.plc))) ∧ Below w.heap.size w w' := by
  have HC0 : Hid (∀ x ∈ l, ∀ W, Below w.heap.size w W → Calls Tryz.prog 44 #[x.modV] W fun e w' => e = .returned (.int .i64 (chkMod x.mod)) ∧ Below W.heap.size W w') := fun x hx W hb => checkModule_any x.mod x.modV W (((hrow.2 x hx).below hb).more hb.size |>.isMod) (hfit x hx)
  have hat := hrow.2
  obtain ⟨⟨a, cap, rfl, _, hrow⟩, _⟩ := hrow
  unfold plainErr
  rw [List.length_map]
  by_cases h8 : 8 < l.length
  · rw [if_pos h8]
    have h8' : (8 : Int) < l.length := by omega
    clear HC0 hat hrow
    go_enter Tryz.func124, Tryz.ntmps124
    go_wp2
    go_ret
    exact ⟨rfl, Below.refl _ _⟩
  · rw [if_neg h8]
    have h8' : decide ((8 : Int) < l.length) = false := decide_eq_false (by omega)
    have h8'' : decide (8 < l.length) = false := decide_eq_false (by omega)
    go_enter Tryz.func124, Tryz.ntmps124
    go_wp2_with fail
    go_loopw [7] (fun i wr => ∃ (k : Nat), k ≤ l.length ∧ i = .int .i64 k ∧ Hid (chkBy (fun _ => 0) (l.map PV.plc) = chkBy (fun _ => 0) ((l.drop k).map PV.plc)) ∧ Below w.heap.size w wr) (fun i _ => l.length - (intOf i).toNat)
    case atStart => exact ⟨0, Nat.zero_le _, rfl, by show chkBy _ (l.map PV.plc) = chkBy _ ((l.drop 0).map PV.plc); rfl, Below.refl _ _⟩
    case round =>
      obtain ⟨k, hk, rfl, HC, B⟩ := hrel
      by_cases hlt : k < l.length
      · obtain ⟨x, hx⟩ : ∃ x, l[k]? = some x := ⟨_, List.getElem?_eq_getElem hlt⟩
        rcases hrow with h | ⟨b, off, rfl, hbn, hcells⟩
        · subst h; simp at hlt
        have key := chkBy_step (fun _ => 0) x.plc ((l.drop (k + 1)).map PV.plc)
        have HR : Hid (chkBy (fun _ => 0) (l.map PV.plc) = chkBy (fun _ => 0) (x.plc :: (l.drop (k + 1)).map PV.plc)) := by
          show chkBy _ (l.map PV.plc) = _
          rw [HC.out, drop_at hx]
          rfl
        have HM : Hid (∀ W, Below w.heap.size w W → Calls Tryz.prog 44 #[x.modV] W fun e w' => e = .returned (.int .i64 (chkMod x.mod)) ∧ Below W.heap.size W w') := HC0.out x (List.mem_of_getElem? hx)
        obtain ⟨⟨pe, ke, e4, _⟩, ⟨pi, ki, e5, _⟩, ⟨pp, kp, e6, _⟩⟩ := hat x (List.mem_of_getElem? hx)
        have c0 := (B.cell (p := ⟨b, off + k * 8 + 0, none⟩) hbn).trans (hcells k _ hx 0 (by omega))
        have c1 := (B.cell (p := ⟨b, off + k * 8 + 1, none⟩) hbn).trans (hcells k _ hx 1 (by omega))
        have c2 := (B.cell (p := ⟨b, off + k * 8 + 2, none⟩) hbn).trans (hcells k _ hx 2 (by omega))
        have c3 := (B.cell (p := ⟨b, off + k * 8 + 3, none⟩) hbn).trans (hcells k _ hx 3 (by omega))
        have c4 := (B.cell (p := ⟨b, off + k * 8 + 4, none⟩) hbn).trans (hcells k _ hx 4 (by omega))
        have c5 := (B.cell (p := ⟨b, off + k * 8 + 5, none⟩) hbn).trans (hcells k _ hx 5 (by omega))
        have c6 := (B.cell (p := ⟨b, off + k * 8 + 6, none⟩) hbn).trans (hcells k _ hx 6 (by omega))
        clear HC HC0 hcells hx hat
        rw [show x.plc.mod = x.mod from rfl] at key
        generalize hcm : chkMod x.mod = cm at key HM
        generalize chkBy (fun _ => 0) (x.plc :: (l.drop (k + 1)).map PV.plc) = R at key HR
        clear hcm
        obtain ⟨⟨N, ma, mi, T, es, is, ps⟩, ve, vi, vp, fi⟩ := x
        dsimp only at e4 e5 e6
        subst e4 e5 e6
        dsimp only [PV.cell, PV.modV] at c0 c1 c2 c3 c4 c5 c6 HM
        rw [Nat.add_zero] at c0
        generalize es.length = le at *
        generalize is.length = li at *
        generalize ps.length = lp at *
        go_wp2_with fail
        refine (HM.out _ B).mono ?_
        rintro e w2 ⟨rfl, b2⟩
        have B2 := B.trans (b2.mono B.size)
        clear b2 c0 c1 c2 c3 c4 c5 c6 HM
        rcases key with ⟨h1, rfl⟩ | ⟨_, h2, _⟩ | ⟨rfl, _, rfl⟩
        · have h1' : (R != 0) = true := by simpa using h1
          clear h1
          go_wp2
          go_ret
          exact ⟨by rw [HR.out]; rfl, B2⟩
        · exact absurd rfl h2
        · go_wp2
          exact ⟨⟨k + 1, by omega, by go_num, HR.out, B2⟩, by simp [intOf]; omega⟩
      · obtain rfl : k = l.length := by omega
        have HZ : Hid (chkBy (fun _ => 0) (l.map PV.plc) = 0) := by
          show chkBy _ (l.map PV.plc) = 0
          rw [HC.out, List.drop_length]; rfl
        go_wp2
        go_ret
        exact ⟨by rw [HZ.out]; rfl, B⟩

theorem idx_lt {α : Type} {p : α → Bool} : ∀ (l : List α) (n k : Nat) (x : α), l[k]? = some x → p x = true → (decide (idxFrom p n l < ((n + k : Nat) : Int)) = (l.take k).any p)
  | [], _, _, _, h, _ => by simp at h
  | y :: l, n, 0, x, h, hx => by
    obtain rfl : y = x := by simpa using h
    have hs : idxFrom p n (y :: l) = if p y = true then (n : Int) else idxFrom p (n + 1) l := rfl
    rw [hs, hx]
    simp
  | y :: l, n, k + 1, x, h, hx => by
    have hs : idxFrom p n (y :: l) = if p y = true then (n : Int) else idxFrom p (n + 1) l := rfl
    rw [hs, List.take_succ_cons, List.any_cons]
    cases hy : p y
    · have ih := idx_lt l (n + 1) k x (by simpa using h) hx
      rw [Bool.false_or, ← ih, if_neg (by decide), show n + (k + 1) = n + 1 + k by omega]
    · rw [if_pos rfl, Bool.true_or]
      exact decide_eq_true (by omega)

set_option maxHeartbeats 2000000 in
theorem isTwice_any (l : List PV) (v : Value) (w : World) (hrow : RowOf 8 PV.cell w.heap.size w v l) :
    Calls Tryz.prog 86 #[v] w fun e w' => e = .returned (.bool (twiceFrom [] (l.map PV.plc))) ∧ Below w.heap.size w w' := by
  have HP : Hid (∀ W n, Below w.heap.size w W → Calls Tryz.prog 45 #[v, .string n] W fun e w' => e = .returned (.int .i64 (idxFrom (fun x : PV => x.mod.name == n) 0 l)) ∧ Below W.heap.size W w') := fun W n hb => placeOf_any l v n W ((hrow.below hb).more hb.size)
  obtain ⟨a, cap, rfl, hz, hrow⟩ := hrow
  have HC0 : Hid (twiceFrom [] (l.map PV.plc) = twiceFrom ((l.take 0).map (·.mod.name)) ((l.drop 0).map PV.plc)) := (rfl : _ = _)
  generalize twiceFrom [] (l.map PV.plc) = R at *
  go_enter Tryz.func86, Tryz.ntmps86
  go_wp2_with fail
  go_loopw [3] (fun i wr => ∃ (k : Nat), k ≤ l.length ∧ i = .int .i64 k ∧ Hid (R = twiceFrom ((l.take k).map (·.mod.name)) ((l.drop k).map PV.plc)) ∧ Below w.heap.size w wr) (fun i _ => l.length - (intOf i).toNat)
  case atStart => exact ⟨0, Nat.zero_le _, rfl, HC0.out, Below.refl _ _⟩
  case round =>
    obtain ⟨k, hk, rfl, HC, B⟩ := hrel
    clear HC0
    by_cases hlt : k < l.length
    · obtain ⟨x, hx⟩ : ∃ x, l[k]? = some x := ⟨_, List.getElem?_eq_getElem hlt⟩
      rcases hrow with h | ⟨b, off, rfl, hbn, hcells⟩
      · subst h; simp at hlt
      have c0 := (B.cell (p := ⟨b, off + k * 8 + 0, none⟩) hbn).trans (hcells k _ hx 0 (by omega))
      dsimp only [PV.cell] at c0
      rw [Nat.add_zero] at c0
      have hix := idx_lt (p := fun y : PV => y.mod.name == x.mod.name) l 0 k x hx ((Go.MapKept.bytes_beq _ _).2 rfl)
      have htk : (l.take (k + 1)).map (·.mod.name) = (l.take k).map (·.mod.name) ++ [x.mod.name] := by rw [List.take_add_one, hx]; simp
      have HR : Hid (R = (((l.take k).any fun y => y.mod.name == x.mod.name) || twiceFrom ((l.take (k + 1)).map (·.mod.name)) ((l.drop (k + 1)).map PV.plc))) := by
        show R = _
        rw [HC.out, drop_at hx, htk]
        have hs : ∀ met, twiceFrom met (x.plc :: (l.drop (k + 1)).map PV.plc) = ((met.any fun y => y == x.mod.name) || twiceFrom (met ++ [x.mod.name]) ((l.drop (k + 1)).map PV.plc)) := fun _ => rfl
        rw [List.map_cons, hs, List.any_map]
        rfl
      have HPX : Hid (Calls Tryz.prog 45 #[.slice (some ⟨b, off, none⟩) l.length cap, .string x.mod.name] wr fun e w' => e = .returned (.int .i64 (idxFrom (fun y : PV => y.mod.name == x.mod.name) 0 l)) ∧ Below wr.heap.size wr w') := HP.out wr x.mod.name B
      rw [Nat.zero_add] at hix
      clear hcells hx HC htk
      generalize ((l.take k).any fun y => y.mod.name == x.mod.name) = t at *
      generalize idxFrom (fun y : PV => y.mod.name == x.mod.name) 0 l = ix at *
      generalize x.mod.name = xn at *
      go_wp2_with fail
      refine HPX.out.mono ?_
      rintro e w2 ⟨rfl, b2⟩
      have B2 := B.trans (b2.mono B.size)
      clear HPX b2 c0
      cases t
      · have h1 : ¬ ix < (k : Int) := of_decide_eq_false hix
        have HR2 : Hid (R = twiceFrom ((l.take (k + 1)).map (·.mod.name)) ((l.drop (k + 1)).map PV.plc)) := by
          show R = _
          rw [HR.out, Bool.false_or]
        clear HR
        go_wp2
        exact ⟨⟨k + 1, by omega, by go_num, HR2.out, B2⟩, by simp [intOf]; omega⟩
      · have h1 : ix < (k : Int) := of_decide_eq_true hix
        have HR2 : Hid (R = true) := by
          show R = _
          rw [HR.out, Bool.true_or]
        clear HR
        go_wp2
        go_ret
        exact ⟨by rw [HR2.out]; rfl, B2⟩
    · obtain rfl : k = l.length := by omega
      have HZ : Hid (R = false) := by
        show R = false
        rw [HC.out, List.drop_length]; rfl
      go_wp2
      go_ret
      exact ⟨by rw [HZ.out]; rfl, B⟩

end Go.Proofs.YthmohjgdcjafkaeGreat

/- The contracts of the document's answers to numbers in bytes. -/
namespace Go.Proofs.YthmohjgdcjafkaeGreat
open Go.RowKit Go.PlainAid

theorem pow_le_31 (j : Nat) (h : j ≤ 31) : (1 : Int) ≤ 2 ^ j ∧ (2 : Int) ^ j ≤ 2147483648 := by
  constructor
  · have : (0 : Int) < 2 ^ j := Int.pow_pos (by omega)
    omega
  · have := Nat.pow_le_pow_right (n := 2) (by omega) h
    have h' : ((2 ^ j : Nat) : Int) ≤ ((2 ^ 31 : Nat) : Int) := Int.ofNat_le.2 this
    simpa using h'

set_option maxHeartbeats 400000 in
theorem power_any (k : Nat) (hk : k ≤ 32) (w : World) :
    Calls Tryz.prog 166 #[.int .i64 k] w fun e w' => e = .returned (.int .i64 (2 ^ k)) ∧ w' = w := by
  go_enter Tryz.func166, Tryz.ntmps166
  go_wp2
  go_loop [3, 4] (fun x i => ∃ (j : Nat) (p : Int), j ≤ k ∧ i = .int .i64 j ∧ x = .int .i64 p ∧ Hid (p = 2 ^ j)) (fun _ i => k - (intOf i).toNat)
  case atStart => exact ⟨0, 1, Nat.zero_le _, rfl, rfl, by show (1 : Int) = 2 ^ 0; rfl⟩
  case round =>
    obtain ⟨j, p, hj, rfl, rfl, HP⟩ := hrel
    by_cases hlt : j < k
    · obtain ⟨p1, p2⟩ := pow_le_31 j (by omega)
      rw [← HP.out] at p1 p2
      go_wp2
      go_round
      case rel => exact ⟨j + 1, 2 * p, by omega, by go_num, rfl, by show 2 * p = 2 ^ (j + 1); rw [HP.out, Int.pow_succ]; omega⟩
      case measure => simp [intOf]; omega
    · obtain rfl : j = k := by omega
      go_wp2
      go_ret
      exact ⟨by rw [← HP.out]; rfl, rfl⟩

theorem tmod_neg (n m : Int) (h0 : 0 < m) (h : n.tmod m < 0) : n % m = n.tmod m + m ∧ -m < n.tmod m := by
  have a := Int.emod_nonneg n (b := m) (by omega)
  have b := Int.emod_lt_of_pos n h0
  rw [Int.tmod_eq_emod] at h ⊢
  split at h
  · omega
  · rw [if_neg ‹_›]; omega
theorem tmod_nonneg (n m : Int) (h0 : 0 < m) (h : 0 ≤ n.tmod m) : n % m = n.tmod m := by
  have a := Int.emod_nonneg n (b := m) (by omega)
  have b := Int.emod_lt_of_pos n h0
  rw [Int.tmod_eq_emod] at h ⊢
  split at h
  · rw [if_pos ‹_›]; omega
  · omega

set_option maxHeartbeats 400000 in
theorem modulo_any (n m : Int) (h0 : 0 < m) (h1 : m ≤ 4294967296) (w : World) :
    Calls Tryz.prog 165 #[.int .i64 n, .int .i64 m] w fun e w' => e = .returned (.int .i64 (n % m)) ∧ w' = w := by
  have hne : (m == 0) = false := beq_eq_false_iff_ne.2 (by omega)
  have hne1 : (m == -1) = false := beq_eq_false_iff_ne.2 (by omega)
  by_cases h : n.tmod m < 0
  · obtain ⟨e1, e2⟩ := tmod_neg n m h0 h
    rw [e1]
    have HE : Hid (wrap64 (n.tmod m + m) = n.tmod m + m) := by show wrap64 (n.tmod m + m) = n.tmod m + m; unfold wrap64; omega
    clear e1
    go_enter Tryz.func165, Tryz.ntmps165
    go_wp2
    go_ret
    exact ⟨by first | rfl | (rw [← HE.out]; rfl), rfl⟩
  · have e1 := tmod_nonneg n m h0 (by omega)
    rw [e1]
    clear e1
    go_enter Tryz.func165, Tryz.ntmps165
    go_wp2
    go_ret
    exact ⟨rfl, rfl⟩

end Go.Proofs.YthmohjgdcjafkaeGreat
