/- The walk of the law GraphTells. -/
import Derived.Test.YtaklbnabgcglhabGrG
import Derived.Test.YtaklbnabgcglhabGrU
import Derived.Test.YtaklbnabgcglhabRfL
import Derived.Test.YtaklbnabgcglhabRfK
namespace Go.Proofs.Ytaklbnabgcglhab.graphTells
open Go.RowKit Go.PlainAid

set_option maxRecDepth 100000

/-- What the document answers, case by case. -/
theorem tells_cases (l : List PV) (name : ByteArray) :
    (chkGraph (l.map PV.plc) ≠ 0 ∧ comeErr (l.map PV.plc) name = chkGraph (l.map PV.plc) ∧ ordOf (l.map PV.plc) = ([], chkGraph (l.map PV.plc))) ∨
    (chkGraph (l.map PV.plc) = 0 ∧ ((idxFrom (fun x : PV => x.mod.name == name) 0 l = -1 ∧ comeErr (l.map PV.plc) name = 5) ∨ (∃ f : Nat, f < l.length ∧ idxFrom (fun x : PV => x.mod.name == name) 0 l = (f : Int) ∧ comeErr (l.map PV.plc) name = 0 ∧ nameAt (l.map (·.mod)) f = name)) ∧
      ((ordOf (l.map PV.plc) = ([], 4) ∧ ∃ i, Via (Next nxNeed (l.map (·.mod))) i i) ∨ (∃ c, orderFrom (risen (l.map PV.plc)) (risen (l.map PV.plc)).length [] = some c ∧ ordOf (l.map PV.plc) = (c, 0) ∧ ¬ ∃ i, Via (Next nxNeed (l.map (·.mod))) i i))) := by
  have hmm : (l.map PV.plc).map (·.mod) = l.map (·.mod) := by rw [List.map_map]; rfl
  have hix : ∀ (q : List PV) (k : Nat), idxFrom (fun x : PV => x.mod.name == name) k q = ixFrom (fun x : PV => x.mod.name == name) k q := by
    intro q
    induction q with
    | nil => intro k; rfl
    | cons x q ih =>
      intro k
      show (if _ then _ else _) = (if _ then _ else _)
      rw [ih]
  rw [hix]
  rcases come_cases nxNeed l name with ⟨h0, h1, _⟩ | ⟨h0, h1, h2, _⟩ | ⟨h0, f, h1, h2, h3, _⟩
  · rcases ordOf_cases (l.map PV.plc) with ⟨_, e⟩ | ⟨e, _⟩
    · exact .inl ⟨h0, h1, e⟩
    · exact absurd e h0
  all_goals
    refine .inr ⟨h0, ?_, ?_⟩
  · exact .inl ⟨h1, h2⟩
  rotate_left
  · refine .inr ⟨f, h1, h2, h3, ?_⟩
    rcases ix_find (fun x : PV => x.mod.name == name) l 0 with ⟨_, g2⟩ | ⟨j, x, g1, g2, g3⟩
    · omega
    · have : j = f := by omega
      subst this
      rw [nameAt_some (x := x.mod) (by rw [List.getElem?_map, g2]; rfl)]
      exact (Go.MapKept.bytes_beq _ _).1 (by simpa using List.find?_some g1)
  all_goals
    have hd := chk_nodup h0
    rcases ordOf_cases (l.map PV.plc) with ⟨e, _⟩ | ⟨_, e⟩
    · exact absurd h0 e
    · cases ho : orderFrom (risen (l.map PV.plc)) (risen (l.map PV.plc)).length [] with
      | none =>
        refine .inl ⟨by rw [e, ordRes_none ho], ?_⟩
        have := order_round (risen_perm _) hd ho
        rw [hmm] at this
        exact this
      | some c =>
        refine .inr ⟨c, rfl, by rw [e, ordRes_some ho], ?_⟩
        rintro ⟨i, hi⟩
        have hst := order_stands .nil ho
        refine hst.1.noRound (risen_perm _) hd ?_ i (by rw [hmm]; exact hi)
        rw [hst.2.1, (risen_perm (l.map PV.plc)).length_eq]
        simp
theorem comes_one {nx : Mod → Mod → Bool} {Ms : List Mod} {f : Nat} {a b : List ByteArray} (ha : Comes nx Ms f a) (hb : Comes nx Ms f b) : a = b := ha.1.same hb.1 fun x => by rw [ha.2, hb.2]
theorem res_comes {nx : Mod → Mod → Bool} {l : List PV} {name : ByteArray} {ss rs : List ByteArray} {f : Nat} (h : ComeRes nx (l.map PV.plc) name ss) (h0 : comeErr (l.map PV.plc) name = 0) (hf : f < l.length) (hn : nameAt (l.map (·.mod)) f = name) (hr : Comes nx (l.map (·.mod)) f rs) : ss = rs := by
  have hmm : (l.map PV.plc).map (·.mod) = l.map (·.mod) := by rw [List.map_map]; rfl
  obtain ⟨g, hg, hgn, hc⟩ := h.ok h0
  have hd := chk_nodup (comeErr_zero h0)
  rw [hmm] at hgn hc hd
  have : g = f := nameAt_inj hd (by simpa using hg) (by simpa using hf) (by rw [hgn, hn])
  subst this
  exact comes_one hc hr
theorem rowNil (W : World) : RowOf 1 strCell W.heap.size W (.slice none 0 0) [] := ⟨none, 0, rfl, by simp, .inl rfl⟩

set_option maxHeartbeats 8000000 in
theorem walk (l : List PV) (v : Value) (name : ByteArray) (w : World) (hrow : IsPlcs w.heap.size w v l) (hfit : ∀ x ∈ l, x.mod.fits) (_ : name.size ≤ 140737488351232) :
    Calls Try.prog 8 #[v, .string name] w fun e w' => e = .returned (.bool true) ∧ Below w.heap.size w w' := by
  have HN : Hid (Calls Try.prog 27 #[v, .string name] w fun e w' => (∃ r ss, e = .returned (.tuple #[r, .int .i64 (comeErr (l.map PV.plc) name)]) ∧ RowOf 1 strCell w'.heap.size w' r ss ∧ ComeRes nxNeed (l.map PV.plc) name ss) ∧ Below w.heap.size w w') := needs_any l v name w hrow hfit
  have HU : Hid (∀ W, Below w.heap.size w W → Calls Try.prog 28 #[v, .string name] W fun e w' => (∃ r ss, e = .returned (.tuple #[r, .int .i64 (comeErr (l.map PV.plc) name)]) ∧ RowOf 1 strCell w'.heap.size w' r ss ∧ ComeRes nxUse (l.map PV.plc) name ss) ∧ Below W.heap.size W w') := fun W hb => users_any l v name W ((hrow.below hb).more hb.size) hfit
  have HO : Hid (∀ W, Below w.heap.size w W → Calls Try.prog 29 #[v] W fun e w' => (∃ r, e = .returned (.tuple #[r, .int .i64 (ordOf (l.map PV.plc)).2]) ∧ RowOf 1 strCell w'.heap.size w' r (ordOf (l.map PV.plc)).1 ∧ CapOk r) ∧ Below W.heap.size W w') := fun W hb => order_any l v W ((hrow.below hb).more hb.size) hfit
  have HC : Hid (∀ W, Below w.heap.size w W → Calls Try.prog 30 #[v] W fun e w' => e = .returned (.int .i64 (chkGraph (l.map PV.plc))) ∧ Below W.heap.size W w') := fun W hb => checkGraph_any l v W ((hrow.below hb).more hb.size) hfit
  have HP : Hid (∀ W, Below w.heap.size w W → Calls Try.prog 31 #[v, .string name] W fun e w' => e = .returned (.int .i64 (idxFrom (fun x : PV => x.mod.name == name) 0 l)) ∧ Below W.heap.size W w') := fun W hb => placeOf_any l v name W ((hrow.1.below hb).more hb.size)
  have H8 : chkGraph (l.map PV.plc) = 0 → l.length ≤ 8 := fun h => by simpa using (chkGraph_zero.1 h).1
  have HIR : Hid (chkGraph (l.map PV.plc) = 0 → ∀ W rb, Below w.heap.size w W → (rb = true ↔ ∃ i, Via (Next nxNeed (l.map (·.mod))) i i) → Calls Try.prog 32 #[v] W fun e w' => e = .returned (.bool rb) ∧ Below W.heap.size W w') := fun h0 W rb hb hr => isRound_any l v W ((hrow.below hb).more hb.size) (H8 h0) rb hr
  have HNOx : Hid (chkGraph (l.map PV.plc) = 0 → ∀ f : Nat, f < l.length → idxFrom (fun x : PV => x.mod.name == name) 0 l = (f : Int) → ∀ us W, Below w.heap.size w W → Calls Try.prog 33 #[v, .string name, .bool us] W fun e w' => (∃ r rs, e = .returned r ∧ RowOf 1 strCell w'.heap.size w' r rs ∧ Comes (nxOf us) (l.map (·.mod)) f rs) ∧ Below W.heap.size W w') := fun h0 f hf hix us W hb => by
    have hd := chk_nodup h0
    rw [show (l.map PV.plc).map (·.mod) = l.map (·.mod) by rw [List.map_map]; rfl] at hd
    exact needsOf_any l v name us W ((hrow.below hb).more hb.size) hfit (H8 h0) hd f hf hix
  have HNO1 : Hid (chkGraph (l.map PV.plc) = 0 → ∀ f : Nat, f < l.length → idxFrom (fun x : PV => x.mod.name == name) 0 l = (f : Int) → ∀ W, Below w.heap.size w W → Calls Try.prog 33 #[v, .string name, .bool false] W fun e w' => (∃ r rs, e = .returned r ∧ RowOf 1 strCell w'.heap.size w' r rs ∧ Comes (nxOf false) (l.map (·.mod)) f rs) ∧ Below W.heap.size W w') := fun h0 f hf hix => HNOx.out h0 f hf hix false
  have HNO2 : Hid (chkGraph (l.map PV.plc) = 0 → ∀ f : Nat, f < l.length → idxFrom (fun x : PV => x.mod.name == name) 0 l = (f : Int) → ∀ W, Below w.heap.size w W → Calls Try.prog 33 #[v, .string name, .bool true] W fun e w' => (∃ r rs, e = .returned r ∧ RowOf 1 strCell w'.heap.size w' r rs ∧ Comes (nxOf true) (l.map (·.mod)) f rs) ∧ Below W.heap.size W w') := fun h0 f hf hix => HNOx.out h0 f hf hix true
  clear HNOx
  have HOO : Hid (chkGraph (l.map PV.plc) = 0 → ∀ c, orderFrom (risen (l.map PV.plc)) (risen (l.map PV.plc)).length [] = some c → ∀ W, Below w.heap.size w W → Calls Try.prog 34 #[v] W fun e w' => (∃ r, e = .returned r ∧ RowOf 1 strCell w'.heap.size w' r c) ∧ Below W.heap.size W w') := fun h0 c hc W hb => orderOf_any l v W ((hrow.below hb).more hb.size) hfit h0 c hc
  have HE1 : Hid (∀ ss, ComeRes nxNeed (l.map PV.plc) name ss → comeErr (l.map PV.plc) name ≠ 0 → ss = []) := fun ss h he => h.err he
  have HE2 : Hid (∀ ss, ComeRes nxUse (l.map PV.plc) name ss → comeErr (l.map PV.plc) name ≠ 0 → ss = []) := fun ss h he => h.err he
  have HS1 : Hid (∀ f ss rs, ComeRes nxNeed (l.map PV.plc) name ss → comeErr (l.map PV.plc) name = 0 → f < l.length → nameAt (l.map (·.mod)) f = name → Comes (nxOf false) (l.map (·.mod)) f rs → ss = rs) := fun f ss rs h h0 hf hn hr => res_comes h h0 hf hn hr
  have HS2 : Hid (∀ f ss rs, ComeRes nxUse (l.map PV.plc) name ss → comeErr (l.map PV.plc) name = 0 → f < l.length → nameAt (l.map (·.mod)) f = name → Comes (nxOf true) (l.map (·.mod)) f rs → ss = rs) := fun f ss rs h h0 hf hn hr => res_comes h h0 hf hn hr
  have key := tells_cases l name
  obtain ⟨⟨va, vc, rfl, _, _⟩, _⟩ := hrow
  clear hfit H8
  generalize chkGraph (l.map PV.plc) = cg at *
  generalize comeErr (l.map PV.plc) name = ce at *
  generalize ComeRes nxNeed (l.map PV.plc) name = CA at *
  generalize ComeRes nxUse (l.map PV.plc) name = CU at *
  generalize ordOf (l.map PV.plc) = OO at *
  generalize idxFrom (fun x : PV => x.mod.name == name) 0 l = ix at *
  generalize (∃ i, Via (Next nxNeed (l.map (·.mod))) i i) = RR at *
  generalize Comes (nxOf false) (l.map (·.mod)) = CMF at *
  generalize Comes (nxOf true) (l.map (·.mod)) = CMT at *
  generalize nameAt (l.map (·.mod)) = nA at *
  generalize orderFrom (risen (l.map PV.plc)) (risen (l.map PV.plc)).length [] = OF at *
  generalize l.length = ll at *
  go_enter Try.func8, Try.ntmps8
  go_wp2_with fail
  refine HN.out.mono ?_
  rintro e w1 ⟨⟨r1, xs, rfl, R1, hx⟩, B1⟩
  obtain ⟨a1, c1, rfl, _⟩ := id R1
  clear HN
  go_wp2_with fail
  refine (HU.out _ B1).mono ?_
  rintro e w2 ⟨⟨r2, ys, rfl, U2, hy⟩, b2⟩
  obtain ⟨a2, c2, rfl, _⟩ := id U2
  have B2 := B1.trans (b2.mono B1.size)
  have R2 := (R1.below b2).more b2.size
  clear HU b2 R1 B1
  go_wp2_with fail
  refine (HO.out _ B2).mono ?_
  rintro e w3 ⟨⟨r3, rfl, O3, _⟩, b3⟩
  obtain ⟨a3, c3, rfl, _⟩ := id O3
  have B3 := B2.trans (b3.mono B2.size)
  have R3 := (R2.below b3).more b3.size
  have U3 := (U2.below b3).more b3.size
  clear HO b3 R2 U2 B2
  go_wp2_with fail
  refine (HC.out _ B3).mono ?_
  rintro e w4 ⟨rfl, b4⟩
  have B4 := B3.trans (b4.mono B3.size)
  have R4 := (R3.below b4).more b4.size
  have U4 := (U3.below b4).more b4.size
  have O4 := (O3.below b4).more b4.size
  clear HC b4 R3 U3 O3 B3
  rcases key with ⟨h0, h1, h2⟩ | ⟨h0, hA, hB⟩
  · subst h2
    subst h1
    obtain rfl := HE1.out xs hx h0
    obtain rfl := HE2.out ys hy h0
    have h0' : (ce == 0) = false := by simpa using h0
    have hee : (ce == ce) = true := by simp
    have NA := rowNil w4
    have NB := rowNil w4
    have NC := rowNil w4
    clear HIR HNO1 HNO2 HOO HE1 HE2 HS1 HS2 hx hy HP h0
    dsimp only at *
    go_wp2_with fail
    refine (graphBegun_any _).mono ?_
    rintro e v5 ⟨rfl, b25⟩
    have BB5 := B4.trans (b25.mono B4.size)
    have R4q := (R4.below b25).more b25.size
    have U4q := (U4.below b25).more b25.size
    have O4q := (O4.below b25).more b25.size
    have NAq := (NA.below b25).more b25.size
    have NBq := (NB.below b25).more b25.size
    have NCq := (NC.below b25).more b25.size
    clear R4 U4 O4 NA NB NC
    clear b25 B4
    have HQA : Hid (Calls Try.prog 36 _ v5 fun e w' => _) := sameTexts_yes _ _ _ v5 R4q NAq
    clear R4q NAq
    go_wp2_with fail
    refine (HQA.out).mono ?_
    rintro e v6 ⟨rfl, b26⟩
    have BB6 := BB5.trans (b26.mono BB5.size)
    have U4qq := (U4q.below b26).more b26.size
    have O4qq := (O4q.below b26).more b26.size
    have NBqq := (NBq.below b26).more b26.size
    have NCqq := (NCq.below b26).more b26.size
    clear U4q O4q NBq NCq
    clear b26 BB5
    have HQB : Hid (Calls Try.prog 36 _ v6 fun e w' => _) := sameTexts_yes _ _ _ v6 U4qq NBqq
    clear U4qq NBqq
    go_wp2_with fail
    refine (HQB.out).mono ?_
    rintro e v7 ⟨rfl, b27⟩
    have BB7 := BB6.trans (b27.mono BB6.size)
    have O4qqq := (O4qq.below b27).more b27.size
    have NCqqq := (NCqq.below b27).more b27.size
    clear O4qq NCqq
    clear b27 BB6
    have HQC : Hid (Calls Try.prog 36 _ v7 fun e w' => _) := sameTexts_yes _ _ _ v7 O4qqq NCqqq
    clear O4qqq NCqqq
    go_wp2_with fail
    refine (HQC.out).mono ?_
    rintro e v8 ⟨rfl, b28⟩
    have BB8 := BB7.trans (b28.mono BB7.size)
    clear b28 BB7
    go_wp2
    go_ret
    exact ⟨rfl, BB8⟩
  · subst h0
    rcases hA with ⟨h1, h2⟩ | ⟨f, hf, h1, h2, h3⟩
    · subst h1 h2
      rcases hB with ⟨h4, hR⟩ | ⟨c, hc, h4, hR⟩
      · subst h4
        obtain rfl := HE1.out xs hx (by decide)
        obtain rfl := HE2.out ys hy (by decide)
        have HRR : Hid (true = true ↔ RR) := ⟨fun _ => hR, fun _ => rfl⟩
        have HIR2 : Hid (∀ W, Below w.heap.size w W → Calls Try.prog 32 #[.slice va ll vc] W fun e w' => e = .returned (.bool true) ∧ Below W.heap.size W w') := fun W hb => HIR.out (by first | rfl | trivial) W true hb HRR.out
        clear HIR HNO1 HNO2 HOO HE1 HE2 HS1 HS2 hx hy HRR hR
        dsimp only at *
        go_wp2_with fail
        refine (HP.out _ B4).mono ?_
        rintro e v5 ⟨rfl, b25⟩
        have BB5 := B4.trans (b25.mono B4.size)
        have R4q := (R4.below b25).more b25.size
        have U4q := (U4.below b25).more b25.size
        have O4q := (O4.below b25).more b25.size
        clear R4 U4 O4
        clear b25 B4
        go_wp2_with fail
        refine (HIR2.out _ BB5).mono ?_
        rintro e v6 ⟨rfl, b26⟩
        have BB6 := BB5.trans (b26.mono BB5.size)
        have R4qq := (R4q.below b26).more b26.size
        have U4qq := (U4q.below b26).more b26.size
        have O4qq := (O4q.below b26).more b26.size
        clear R4q U4q O4q
        clear b26 BB5
        have NA := rowNil v6
        have NB := rowNil v6
        have NC := rowNil v6
        go_wp2_with fail
        refine (graphBegun_any _).mono ?_
        rintro e v7 ⟨rfl, b27⟩
        have BB7 := BB6.trans (b27.mono BB6.size)
        have R4qqq := (R4qq.below b27).more b27.size
        have U4qqq := (U4qq.below b27).more b27.size
        have O4qqq := (O4qq.below b27).more b27.size
        have NAq := (NA.below b27).more b27.size
        have NBq := (NB.below b27).more b27.size
        have NCq := (NC.below b27).more b27.size
        clear R4qq U4qq O4qq NA NB NC
        clear b27 BB6
        have HQA : Hid (Calls Try.prog 36 _ v7 fun e w' => _) := sameTexts_yes _ _ _ v7 R4qqq NAq
        clear R4qqq NAq
        go_wp2_with fail
        refine (HQA.out).mono ?_
        rintro e v8 ⟨rfl, b28⟩
        have BB8 := BB7.trans (b28.mono BB7.size)
        have U4qqqq := (U4qqq.below b28).more b28.size
        have O4qqqq := (O4qqq.below b28).more b28.size
        have NBqq := (NBq.below b28).more b28.size
        have NCqq := (NCq.below b28).more b28.size
        clear U4qqq O4qqq NBq NCq
        clear b28 BB7
        have HQB : Hid (Calls Try.prog 36 _ v8 fun e w' => _) := sameTexts_yes _ _ _ v8 U4qqqq NBqq
        clear U4qqqq NBqq
        go_wp2_with fail
        refine (HQB.out).mono ?_
        rintro e v9 ⟨rfl, b29⟩
        have BB9 := BB8.trans (b29.mono BB8.size)
        have O4qqqqq := (O4qqqq.below b29).more b29.size
        have NCqqq := (NCqq.below b29).more b29.size
        clear O4qqqq NCqq
        clear b29 BB8
        have HQC : Hid (Calls Try.prog 36 _ v9 fun e w' => _) := sameTexts_yes _ _ _ v9 O4qqqqq NCqqq
        clear O4qqqqq NCqqq
        go_wp2_with fail
        refine (HQC.out).mono ?_
        rintro e v10 ⟨rfl, b30⟩
        have BB10 := BB9.trans (b30.mono BB9.size)
        clear b30 BB9
        go_wp2
        go_ret
        exact ⟨rfl, BB10⟩
      · subst h4
        obtain rfl := HE1.out xs hx (by decide)
        obtain rfl := HE2.out ys hy (by decide)
        have HRR : Hid (false = true ↔ RR) := ⟨fun h => (by cases h), fun h => absurd h hR⟩
        have HIR2 : Hid (∀ W, Below w.heap.size w W → Calls Try.prog 32 #[.slice va ll vc] W fun e w' => e = .returned (.bool false) ∧ Below W.heap.size W w') := fun W hb => HIR.out (by first | rfl | trivial) W false hb HRR.out
        have HOO2 : Hid (∀ W, Below w.heap.size w W → Calls Try.prog 34 #[.slice va ll vc] W fun e w' => (∃ r, e = .returned r ∧ RowOf 1 strCell w'.heap.size w' r c) ∧ Below W.heap.size W w') := HOO.out (by first | rfl | trivial) c hc
        clear HIR HNO1 HNO2 HOO HE1 HE2 HS1 HS2 hx hy HRR hR hc
        dsimp only at *
        go_wp2_with fail
        refine (HP.out _ B4).mono ?_
        rintro e v5 ⟨rfl, b25⟩
        have BB5 := B4.trans (b25.mono B4.size)
        have R4q := (R4.below b25).more b25.size
        have U4q := (U4.below b25).more b25.size
        have O4q := (O4.below b25).more b25.size
        clear R4 U4 O4
        clear b25 B4
        go_wp2_with fail
        refine (HIR2.out _ BB5).mono ?_
        rintro e v6 ⟨rfl, b26⟩
        have BB6 := BB5.trans (b26.mono BB5.size)
        have R4qq := (R4q.below b26).more b26.size
        have U4qq := (U4q.below b26).more b26.size
        have O4qq := (O4q.below b26).more b26.size
        clear R4q U4q O4q
        clear b26 BB5
        have NA := rowNil v6
        have NB := rowNil v6
        go_wp2_with fail
        refine (HOO2.out _ BB6).mono ?_
        rintro e v7 ⟨⟨q3, rfl, NC⟩, b27⟩
        have BB7 := BB6.trans (b27.mono BB6.size)
        have R4qqq := (R4qq.below b27).more b27.size
        have U4qqq := (U4qq.below b27).more b27.size
        have O4qqq := (O4qq.below b27).more b27.size
        have NAq := (NA.below b27).more b27.size
        have NBq := (NB.below b27).more b27.size
        clear R4qq U4qq O4qq NA NB
        clear b27 BB6
        obtain ⟨d3, k3, rfl, _⟩ := id NC
        clear HOO2
        go_wp2_with fail
        refine (graphBegun_any _).mono ?_
        rintro e v8 ⟨rfl, b28⟩
        have BB8 := BB7.trans (b28.mono BB7.size)
        have R4qqqq := (R4qqq.below b28).more b28.size
        have U4qqqq := (U4qqq.below b28).more b28.size
        have O4qqqq := (O4qqq.below b28).more b28.size
        have NAqq := (NAq.below b28).more b28.size
        have NBqq := (NBq.below b28).more b28.size
        have NCq := (NC.below b28).more b28.size
        clear R4qqq U4qqq O4qqq NAq NBq NC
        clear b28 BB7
        have HQA : Hid (Calls Try.prog 36 _ v8 fun e w' => _) := sameTexts_yes _ _ _ v8 R4qqqq NAqq
        clear R4qqqq NAqq
        go_wp2_with fail
        refine (HQA.out).mono ?_
        rintro e v9 ⟨rfl, b29⟩
        have BB9 := BB8.trans (b29.mono BB8.size)
        have U4qqqqq := (U4qqqq.below b29).more b29.size
        have O4qqqqq := (O4qqqq.below b29).more b29.size
        have NBqqq := (NBqq.below b29).more b29.size
        have NCqq := (NCq.below b29).more b29.size
        clear U4qqqq O4qqqq NBqq NCq
        clear b29 BB8
        have HQB : Hid (Calls Try.prog 36 _ v9 fun e w' => _) := sameTexts_yes _ _ _ v9 U4qqqqq NBqqq
        clear U4qqqqq NBqqq
        go_wp2_with fail
        refine (HQB.out).mono ?_
        rintro e v10 ⟨rfl, b30⟩
        have BB10 := BB9.trans (b30.mono BB9.size)
        have O4qqqqqq := (O4qqqqq.below b30).more b30.size
        have NCqqq := (NCqq.below b30).more b30.size
        clear O4qqqqq NCqq
        clear b30 BB9
        have HQC : Hid (Calls Try.prog 36 _ v10 fun e w' => _) := sameTexts_yes _ _ _ v10 O4qqqqqq NCqqq
        clear O4qqqqqq NCqqq
        go_wp2_with fail
        refine (HQC.out).mono ?_
        rintro e v11 ⟨rfl, b31⟩
        have BB11 := BB10.trans (b31.mono BB10.size)
        clear b31 BB10
        go_wp2
        go_ret
        exact ⟨rfl, BB11⟩
    · subst h1 h2
      rcases hB with ⟨h4, hR⟩ | ⟨c, hc, h4, hR⟩
      · subst h4
        have HRR : Hid (true = true ↔ RR) := ⟨fun _ => hR, fun _ => rfl⟩
        have HSA : Hid (∀ rs, CMF f rs → xs = rs) := fun rs hr => HS1.out f xs rs hx (by first | rfl | trivial) hf h3 hr
        have HSB : Hid (∀ rs, CMT f rs → ys = rs) := fun rs hr => HS2.out f ys rs hy (by first | rfl | trivial) hf h3 hr
        have HNF1 : Hid (∀ W, Below w.heap.size w W → Calls Try.prog 33 #[.slice va ll vc, .string name, .bool false] W fun e w' => (∃ r rs, e = .returned r ∧ RowOf 1 strCell w'.heap.size w' r rs ∧ CMF f rs) ∧ Below W.heap.size W w') := HNO1.out (by first | rfl | trivial) f hf (by first | rfl | trivial)
        have HNF2 : Hid (∀ W, Below w.heap.size w W → Calls Try.prog 33 #[.slice va ll vc, .string name, .bool true] W fun e w' => (∃ r rs, e = .returned r ∧ RowOf 1 strCell w'.heap.size w' r rs ∧ CMT f rs) ∧ Below W.heap.size W w') := HNO2.out (by first | rfl | trivial) f hf (by first | rfl | trivial)
        have HIR2 : Hid (∀ W, Below w.heap.size w W → Calls Try.prog 32 #[.slice va ll vc] W fun e w' => e = .returned (.bool true) ∧ Below W.heap.size W w') := fun W hb => HIR.out (by first | rfl | trivial) W true hb HRR.out
        clear HIR HNO1 HNO2 HOO HE1 HE2 HS1 HS2 hx hy HRR hR
        dsimp only at *
        go_wp2_with fail
        refine (HP.out _ B4).mono ?_
        rintro e v5 ⟨rfl, b25⟩
        have BB5 := B4.trans (b25.mono B4.size)
        have R4q := (R4.below b25).more b25.size
        have U4q := (U4.below b25).more b25.size
        have O4q := (O4.below b25).more b25.size
        clear R4 U4 O4
        clear b25 B4
        go_wp2_with fail
        refine (HIR2.out _ BB5).mono ?_
        rintro e v6 ⟨rfl, b26⟩
        have BB6 := BB5.trans (b26.mono BB5.size)
        have R4qq := (R4q.below b26).more b26.size
        have U4qq := (U4q.below b26).more b26.size
        have O4qq := (O4q.below b26).more b26.size
        clear R4q U4q O4q
        clear b26 BB5
        go_wp2_with fail
        refine (HNF1.out _ BB6).mono ?_
        rintro e v7 ⟨⟨q1, rs1, rfl, NA, hn1⟩, b27⟩
        have BB7 := BB6.trans (b27.mono BB6.size)
        have R4qqq := (R4qq.below b27).more b27.size
        have U4qqq := (U4qq.below b27).more b27.size
        have O4qqq := (O4qq.below b27).more b27.size
        clear R4qq U4qq O4qq
        clear b27 BB6
        obtain rfl := HSA.out rs1 hn1
        obtain ⟨d1, k1, rfl, _⟩ := id NA
        clear HNF1 HSA hn1
        go_wp2_with fail
        refine (HNF2.out _ BB7).mono ?_
        rintro e v8 ⟨⟨q2, rs2, rfl, NB, hn2⟩, b28⟩
        have BB8 := BB7.trans (b28.mono BB7.size)
        have R4qqqq := (R4qqq.below b28).more b28.size
        have U4qqqq := (U4qqq.below b28).more b28.size
        have O4qqqq := (O4qqq.below b28).more b28.size
        have NAq := (NA.below b28).more b28.size
        clear R4qqq U4qqq O4qqq NA
        clear b28 BB7
        obtain rfl := HSB.out rs2 hn2
        obtain ⟨d2, k2, rfl, _⟩ := id NB
        clear HNF2 HSB hn2
        have NC := rowNil v8
        go_wp2_with fail
        refine (graphBegun_any _).mono ?_
        rintro e v9 ⟨rfl, b29⟩
        have BB9 := BB8.trans (b29.mono BB8.size)
        have R4qqqqq := (R4qqqq.below b29).more b29.size
        have U4qqqqq := (U4qqqq.below b29).more b29.size
        have O4qqqqq := (O4qqqq.below b29).more b29.size
        have NAqq := (NAq.below b29).more b29.size
        have NBq := (NB.below b29).more b29.size
        have NCq := (NC.below b29).more b29.size
        clear R4qqqq U4qqqq O4qqqq NAq NB NC
        clear b29 BB8
        have HQA : Hid (Calls Try.prog 36 _ v9 fun e w' => _) := sameTexts_yes _ _ _ v9 R4qqqqq NAqq
        clear R4qqqqq NAqq
        go_wp2_with fail
        refine (HQA.out).mono ?_
        rintro e v10 ⟨rfl, b30⟩
        have BB10 := BB9.trans (b30.mono BB9.size)
        have U4qqqqqq := (U4qqqqq.below b30).more b30.size
        have O4qqqqqq := (O4qqqqq.below b30).more b30.size
        have NBqq := (NBq.below b30).more b30.size
        have NCqq := (NCq.below b30).more b30.size
        clear U4qqqqq O4qqqqq NBq NCq
        clear b30 BB9
        have HQB : Hid (Calls Try.prog 36 _ v10 fun e w' => _) := sameTexts_yes _ _ _ v10 U4qqqqqq NBqq
        clear U4qqqqqq NBqq
        go_wp2_with fail
        refine (HQB.out).mono ?_
        rintro e v11 ⟨rfl, b31⟩
        have BB11 := BB10.trans (b31.mono BB10.size)
        have O4qqqqqqq := (O4qqqqqq.below b31).more b31.size
        have NCqqq := (NCqq.below b31).more b31.size
        clear O4qqqqqq NCqq
        clear b31 BB10
        have HQC : Hid (Calls Try.prog 36 _ v11 fun e w' => _) := sameTexts_yes _ _ _ v11 O4qqqqqqq NCqqq
        clear O4qqqqqqq NCqqq
        go_wp2_with fail
        refine (HQC.out).mono ?_
        rintro e v12 ⟨rfl, b32⟩
        have BB12 := BB11.trans (b32.mono BB11.size)
        clear b32 BB11
        go_wp2
        go_ret
        exact ⟨rfl, BB12⟩
      · subst h4
        have HRR : Hid (false = true ↔ RR) := ⟨fun h => (by cases h), fun h => absurd h hR⟩
        have HSA : Hid (∀ rs, CMF f rs → xs = rs) := fun rs hr => HS1.out f xs rs hx (by first | rfl | trivial) hf h3 hr
        have HSB : Hid (∀ rs, CMT f rs → ys = rs) := fun rs hr => HS2.out f ys rs hy (by first | rfl | trivial) hf h3 hr
        have HNF1 : Hid (∀ W, Below w.heap.size w W → Calls Try.prog 33 #[.slice va ll vc, .string name, .bool false] W fun e w' => (∃ r rs, e = .returned r ∧ RowOf 1 strCell w'.heap.size w' r rs ∧ CMF f rs) ∧ Below W.heap.size W w') := HNO1.out (by first | rfl | trivial) f hf (by first | rfl | trivial)
        have HNF2 : Hid (∀ W, Below w.heap.size w W → Calls Try.prog 33 #[.slice va ll vc, .string name, .bool true] W fun e w' => (∃ r rs, e = .returned r ∧ RowOf 1 strCell w'.heap.size w' r rs ∧ CMT f rs) ∧ Below W.heap.size W w') := HNO2.out (by first | rfl | trivial) f hf (by first | rfl | trivial)
        have HIR2 : Hid (∀ W, Below w.heap.size w W → Calls Try.prog 32 #[.slice va ll vc] W fun e w' => e = .returned (.bool false) ∧ Below W.heap.size W w') := fun W hb => HIR.out (by first | rfl | trivial) W false hb HRR.out
        have HOO2 : Hid (∀ W, Below w.heap.size w W → Calls Try.prog 34 #[.slice va ll vc] W fun e w' => (∃ r, e = .returned r ∧ RowOf 1 strCell w'.heap.size w' r c) ∧ Below W.heap.size W w') := HOO.out (by first | rfl | trivial) c hc
        clear HIR HNO1 HNO2 HOO HE1 HE2 HS1 HS2 hx hy HRR hR hc
        dsimp only at *
        go_wp2_with fail
        refine (HP.out _ B4).mono ?_
        rintro e v5 ⟨rfl, b25⟩
        have BB5 := B4.trans (b25.mono B4.size)
        have R4q := (R4.below b25).more b25.size
        have U4q := (U4.below b25).more b25.size
        have O4q := (O4.below b25).more b25.size
        clear R4 U4 O4
        clear b25 B4
        go_wp2_with fail
        refine (HIR2.out _ BB5).mono ?_
        rintro e v6 ⟨rfl, b26⟩
        have BB6 := BB5.trans (b26.mono BB5.size)
        have R4qq := (R4q.below b26).more b26.size
        have U4qq := (U4q.below b26).more b26.size
        have O4qq := (O4q.below b26).more b26.size
        clear R4q U4q O4q
        clear b26 BB5
        go_wp2_with fail
        refine (HNF1.out _ BB6).mono ?_
        rintro e v7 ⟨⟨q1, rs1, rfl, NA, hn1⟩, b27⟩
        have BB7 := BB6.trans (b27.mono BB6.size)
        have R4qqq := (R4qq.below b27).more b27.size
        have U4qqq := (U4qq.below b27).more b27.size
        have O4qqq := (O4qq.below b27).more b27.size
        clear R4qq U4qq O4qq
        clear b27 BB6
        obtain rfl := HSA.out rs1 hn1
        obtain ⟨d1, k1, rfl, _⟩ := id NA
        clear HNF1 HSA hn1
        go_wp2_with fail
        refine (HNF2.out _ BB7).mono ?_
        rintro e v8 ⟨⟨q2, rs2, rfl, NB, hn2⟩, b28⟩
        have BB8 := BB7.trans (b28.mono BB7.size)
        have R4qqqq := (R4qqq.below b28).more b28.size
        have U4qqqq := (U4qqq.below b28).more b28.size
        have O4qqqq := (O4qqq.below b28).more b28.size
        have NAq := (NA.below b28).more b28.size
        clear R4qqq U4qqq O4qqq NA
        clear b28 BB7
        obtain rfl := HSB.out rs2 hn2
        obtain ⟨d2, k2, rfl, _⟩ := id NB
        clear HNF2 HSB hn2
        go_wp2_with fail
        refine (HOO2.out _ BB8).mono ?_
        rintro e v9 ⟨⟨q3, rfl, NC⟩, b29⟩
        have BB9 := BB8.trans (b29.mono BB8.size)
        have R4qqqqq := (R4qqqq.below b29).more b29.size
        have U4qqqqq := (U4qqqq.below b29).more b29.size
        have O4qqqqq := (O4qqqq.below b29).more b29.size
        have NAqq := (NAq.below b29).more b29.size
        have NBq := (NB.below b29).more b29.size
        clear R4qqqq U4qqqq O4qqqq NAq NB
        clear b29 BB8
        obtain ⟨d3, k3, rfl, _⟩ := id NC
        clear HOO2
        go_wp2_with fail
        refine (graphBegun_any _).mono ?_
        rintro e v10 ⟨rfl, b30⟩
        have BB10 := BB9.trans (b30.mono BB9.size)
        have R4qqqqqq := (R4qqqqq.below b30).more b30.size
        have U4qqqqqq := (U4qqqqq.below b30).more b30.size
        have O4qqqqqq := (O4qqqqq.below b30).more b30.size
        have NAqqq := (NAqq.below b30).more b30.size
        have NBqq := (NBq.below b30).more b30.size
        have NCq := (NC.below b30).more b30.size
        clear R4qqqqq U4qqqqq O4qqqqq NAqq NBq NC
        clear b30 BB9
        have HQA : Hid (Calls Try.prog 36 _ v10 fun e w' => _) := sameTexts_yes _ _ _ v10 R4qqqqqq NAqqq
        clear R4qqqqqq NAqqq
        go_wp2_with fail
        refine (HQA.out).mono ?_
        rintro e v11 ⟨rfl, b31⟩
        have BB11 := BB10.trans (b31.mono BB10.size)
        have U4qqqqqqq := (U4qqqqqq.below b31).more b31.size
        have O4qqqqqqq := (O4qqqqqq.below b31).more b31.size
        have NBqqq := (NBqq.below b31).more b31.size
        have NCqq := (NCq.below b31).more b31.size
        clear U4qqqqqq O4qqqqqq NBqq NCq
        clear b31 BB10
        have HQB : Hid (Calls Try.prog 36 _ v11 fun e w' => _) := sameTexts_yes _ _ _ v11 U4qqqqqqq NBqqq
        clear U4qqqqqqq NBqqq
        go_wp2_with fail
        refine (HQB.out).mono ?_
        rintro e v12 ⟨rfl, b32⟩
        have BB12 := BB11.trans (b32.mono BB11.size)
        have O4qqqqqqqq := (O4qqqqqqq.below b32).more b32.size
        have NCqqq := (NCqq.below b32).more b32.size
        clear O4qqqqqqq NCqq
        clear b32 BB11
        have HQC : Hid (Calls Try.prog 36 _ v12 fun e w' => _) := sameTexts_yes _ _ _ v12 O4qqqqqqqq NCqqq
        clear O4qqqqqqqq NCqqq
        go_wp2_with fail
        refine (HQC.out).mono ?_
        rintro e v13 ⟨rfl, b33⟩
        have BB13 := BB12.trans (b33.mono BB12.size)
        clear b33 BB12
        go_wp2
        go_ret
        exact ⟨rfl, BB13⟩

end Go.Proofs.Ytaklbnabgcglhab.graphTells
