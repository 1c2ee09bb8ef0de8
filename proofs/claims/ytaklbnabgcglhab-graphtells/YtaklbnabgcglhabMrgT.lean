/- Texts that are laid together. -/
import Derived.Test.YtaklbnabgcglhabMrgL
import Derived.Test.YtaklbnabgcglhabMrgQ
import Derived.Test.YtaklbnabgcglhabMrgS
import Derived.Test.YtaklbnabgcglhabMrgC
import Derived.ProofKit
import Derived.OpenShut
import Derived.ShutString
import Derived.ChangeOld
import Derived.SizedLaws
import Derived.Below
import Derived.Carry
import Derived.Deep.Slices
import Derived.Test.YtaklbnabgcglhabMrgE

/- The walk of the law GraphTells. -/
namespace Go.Proofs.Ytaklbnabgcglhab.graphTells
open Go.RowKit Go.PlainAid

set_option maxRecDepth 100000

/-- What the document answers, case by case. -/
theorem tells_cases (l : List PV) (name : ByteArray) :
    (chkGraph (l.map PV.plc) ≠ 0 ∧ comeErr (l.map PV.plc) name = chkGraph (l.map PV.plc) ∧ ordOf (l.map PV.plc) = ([], chkGraph (l.map PV.plc))) ∨
    (chkGraph (l.map PV.plc) = 0 ∧ ((idxFrom (fun x : PV => x.mod.name == name) 0 l = -1 ∧ comeErr (l.map PV.plc) name = 5) ∨ (∃ f : Nat, f < l.length ∧ idxFrom (fun x : PV => x.mod.name == name) 0 l = (f : Int) ∧ comeErr (l.map PV.plc) name = 0 ∧ nameAt (l.map (·.mod)) f = name)) ∧
      ((ordOf (l.map PV.plc) = ([], 4) ∧ ∃ i, Via (Next nxNeed (l.map (·.mod))) i i) ∨ (∃ c, orderFrom (risen (l.map PV.plc)) (risen (l.map PV.plc)).length [] = some c ∧ ordOf (l.map PV.plc) = (c, 0) ∧ ¬ ∃ i, Via (Next nxNeed (l.map (·.mod))) i i))) := by
  have hmm : (l.map PV.plc).map (·.mod) = l.map (·.mod) := by rw [List.map_map]; rfl
  have hix : ∀ (q : List PV) (k : Nat), idxFrom (fun x : PV => x.mod.name == name) k q = ixFrom (fun x : PV => x.mod.name == name) k q := by
    intro q
    induction q with
    | nil => intro k; rfl
    | cons x q ih =>
      intro k
      show (if _ then _ else _) = (if _ then _ else _)
      rw [ih]
  rw [hix]
  rcases come_cases nxNeed l name with ⟨h0, h1, _⟩ | ⟨h0, h1, h2, _⟩ | ⟨h0, f, h1, h2, h3, _⟩
  · rcases ordOf_cases (l.map PV.plc) with ⟨_, e⟩ | ⟨e, _⟩
    · exact .inl ⟨h0, h1, e⟩
    · exact absurd e h0
  all_goals
    refine .inr ⟨h0, ?_, ?_⟩
  · exact .inl ⟨h1, h2⟩
  rotate_left
  · refine .inr ⟨f, h1, h2, h3, ?_⟩
    rcases ix_find (fun x : PV => x.mod.name == name) l 0 with ⟨_, g2⟩ | ⟨j, x, g1, g2, g3⟩
    · omega
    · have : j = f := by omega
      subst this
      rw [nameAt_some (x := x.mod) (by rw [List.getElem?_map, g2]; rfl)]
      exact (Go.MapKept.bytes_beq _ _).1 (by simpa using List.find?_some g1)
  all_goals
    have hd := chk_nodup h0
    rcases ordOf_cases (l.map PV.plc) with ⟨e, _⟩ | ⟨_, e⟩
    · exact absurd h0 e
    · cases ho : orderFrom (risen (l.map PV.plc)) (risen (l.map PV.plc)).length [] with
      | none =>
        refine .inl ⟨by rw [e, ordRes_none ho], ?_⟩
        have := order_round (risen_perm _) hd ho
        rw [hmm] at this
        exact this
      | some c =>
        refine .inr ⟨c, rfl, by rw [e, ordRes_some ho], ?_⟩
        rintro ⟨i, hi⟩
        have hst := order_stands .nil ho
        refine hst.1.noRound (risen_perm _) hd ?_ i (by rw [hmm]; exact hi)
        rw [hst.2.1, (risen_perm (l.map PV.plc)).length_eq]
        simp
theorem comes_one {nx : Mod → Mod → Bool} {Ms : List Mod} {f : Nat} {a b : List ByteArray} (ha : Comes nx Ms f a) (hb : Comes nx Ms f b) : a = b := ha.1.same hb.1 fun x => by rw [ha.2, hb.2]
theorem res_comes {nx : Mod → Mod → Bool} {l : List PV} {name : ByteArray} {ss rs : List ByteArray} {f : Nat} (h : ComeRes nx (l.map PV.plc) name ss) (h0 : comeErr (l.map PV.plc) name = 0) (hf : f < l.length) (hn : nameAt (l.map (·.mod)) f = name) (hr : Comes nx (l.map (·.mod)) f rs) : ss = rs := by
  have hmm : (l.map PV.plc).map (·.mod) = l.map (·.mod) := by rw [List.map_map]; rfl
  obtain ⟨g, hg, hgn, hc⟩ := h.ok h0
  have hd := chk_nodup (comeErr_zero h0)
  rw [hmm] at hgn hc hd
  have : g = f := nameAt_inj hd (by simpa using hg) (by simpa using hf) (by rw [hgn, hn])
  subst this
  exact comes_one hc hr
theorem rowNil (W : World) : RowOf 1 strCell W.heap.size W (.slice none 0 0) [] := ⟨none, 0, rfl, by simp, .inl rfl⟩

set_option maxHeartbeats 8000000 in
theorem walk (l : List PV) (v : Value) (name : ByteArray) (w : World) (hrow : IsPlcs w.heap.size w v l) (hfit : ∀ x ∈ l, x.mod.fits) (_ : name.size ≤ 140737488351232) :
    Calls Try.prog 8 #[v, .string name] w fun e w' => e = .returned (.bool true) ∧ Below w.heap.size w w' := by
  have HN : Hid (Calls Try.prog 27 #[v, .string name] w fun e w' => (∃ r ss, e = .returned (.tuple #[r, .int .i64 (comeErr (l.map PV.plc) name)]) ∧ RowOf 1 strCell w'.heap.size w' r ss ∧ ComeRes nxNeed (l.map PV.plc) name ss) ∧ Below w.heap.size w w') := needs_any l v name w hrow hfit
  have HU : Hid (∀ W, Below w.heap.size w W → Calls Try.prog 28 #[v, .string name] W fun e w' => (∃ r ss, e = .returned (.tuple #[r, .int .i64 (comeErr (l.map PV.plc) name)]) ∧ RowOf 1 strCell w'.heap.size w' r ss ∧ ComeRes nxUse (l.map PV.plc) name ss) ∧ Below W.heap.size W w') := fun W hb => users_any l v name W ((hrow.below hb).more hb.size) hfit
  have HO : Hid (∀ W, Below w.heap.size w W → Calls Try.prog 29 #[v] W fun e w' => (∃ r, e = .returned (.tuple #[r, .int .i64 (ordOf (l.map PV.plc)).2]) ∧ RowOf 1 strCell w'.heap.size w' r (ordOf (l.map PV.plc)).1 ∧ CapOk r) ∧ Below W.heap.size W w') := fun W hb => order_any l v W ((hrow.below hb).more hb.size) hfit
  have HC : Hid (∀ W, Below w.heap.size w W → Calls Try.prog 30 #[v] W fun e w' => e = .returned (.int .i64 (chkGraph (l.map PV.plc))) ∧ Below W.heap.size W w') := fun W hb => checkGraph_any l v W ((hrow.below hb).more hb.size) hfit
  have HP : Hid (∀ W, Below w.heap.size w W → Calls Try.prog 31 #[v, .string name] W fun e w' => e = .returned (.int .i64 (idxFrom (fun x : PV => x.mod.name == name) 0 l)) ∧ Below W.heap.size W w') := fun W hb => placeOf_any l v name W ((hrow.1.below hb).more hb.size)
  have H8 : chkGraph (l.map PV.plc) = 0 → l.length ≤ 8 := fun h => by simpa using (chkGraph_zero.1 h).1
  have HIR : Hid (chkGraph (l.map PV.plc) = 0 → ∀ W rb, Below w.heap.size w W → (rb = true ↔ ∃ i, Via (Next nxNeed (l.map (·.mod))) i i) → Calls Try.prog 32 #[v] W fun e w' => e = .returned (.bool rb) ∧ Below W.heap.size W w') := fun h0 W rb hb hr => isRound_any l v W ((hrow.below hb).more hb.size) (H8 h0) rb hr
  have HNOx : Hid (chkGraph (l.map PV.plc) = 0 → ∀ f : Nat, f < l.length → idxFrom (fun x : PV => x.mod.name == name) 0 l = (f : Int) → ∀ us W, Below w.heap.size w W → Calls Try.prog 33 #[v, .string name, .bool us] W fun e w' => (∃ r rs, e = .returned r ∧ RowOf 1 strCell w'.heap.size w' r rs ∧ Comes (nxOf us) (l.map (·.mod)) f rs) ∧ Below W.heap.size W w') := fun h0 f hf hix us W hb => by
    have hd := chk_nodup h0
    rw [show (l.map PV.plc).map (·.mod) = l.map (·.mod) by rw [List.map_map]; rfl] at hd
    exact needsOf_any l v name us W ((hrow.below hb).more hb.size) hfit (H8 h0) hd f hf hix
  have HNO1 : Hid (chkGraph (l.map PV.plc) = 0 → ∀ f : Nat, f < l.length → idxFrom (fun x : PV => x.mod.name == name) 0 l = (f : Int) → ∀ W, Below w.heap.size w W → Calls Try.prog 33 #[v, .string name, .bool false] W fun e w' => (∃ r rs, e = .returned r ∧ RowOf 1 strCell w'.heap.size w' r rs ∧ Comes (nxOf false) (l.map (·.mod)) f rs) ∧ Below W.heap.size W w') := fun h0 f hf hix => HNOx.out h0 f hf hix false
  have HNO2 : Hid (chkGraph (l.map PV.plc) = 0 → ∀ f : Nat, f < l.length → idxFrom (fun x : PV => x.mod.name == name) 0 l = (f : Int) → ∀ W, Below w.heap.size w W → Calls Try.prog 33 #[v, .string name, .bool true] W fun e w' => (∃ r rs, e = .returned r ∧ RowOf 1 strCell w'.heap.size w' r rs ∧ Comes (nxOf true) (l.map (·.mod)) f rs) ∧ Below W.heap.size W w') := fun h0 f hf hix => HNOx.out h0 f hf hix true
  clear HNOx
  have HOO : Hid (chkGraph (l.map PV.plc) = 0 → ∀ c, orderFrom (risen (l.map PV.plc)) (risen (l.map PV.plc)).length [] = some c → ∀ W, Below w.heap.size w W → Calls Try.prog 34 #[v] W fun e w' => (∃ r, e = .returned r ∧ RowOf 1 strCell w'.heap.size w' r c) ∧ Below W.heap.size W w') := fun h0 c hc W hb => orderOf_any l v W ((hrow.below hb).more hb.size) hfit h0 c hc
  have HE1 : Hid (∀ ss, ComeRes nxNeed (l.map PV.plc) name ss → comeErr (l.map PV.plc) name ≠ 0 → ss = []) := fun ss h he => h.err he
  have HE2 : Hid (∀ ss, ComeRes nxUse (l.map PV.plc) name ss → comeErr (l.map PV.plc) name ≠ 0 → ss = []) := fun ss h he => h.err he
  have HS1 : Hid (∀ f ss rs, ComeRes nxNeed (l.map PV.plc) name ss → comeErr (l.map PV.plc) name = 0 → f < l.length → nameAt (l.map (·.mod)) f = name → Comes (nxOf false) (l.map (·.mod)) f rs → ss = rs) := fun f ss rs h h0 hf hn hr => res_comes h h0 hf hn hr
  have HS2 : Hid (∀ f ss rs, ComeRes nxUse (l.map PV.plc) name ss → comeErr (l.map PV.plc) name = 0 → f < l.length → nameAt (l.map (·.mod)) f = name → Comes (nxOf true) (l.map (·.mod)) f rs → ss = rs) := fun f ss rs h h0 hf hn hr => res_comes h h0 hf hn hr
  have key := tells_cases l name
  obtain ⟨⟨va, vc, rfl, _, _⟩, _⟩ := hrow
  clear hfit H8
  generalize chkGraph (l.map PV.plc) = cg at *
  generalize comeErr (l.map PV.plc) name = ce at *
  generalize ComeRes nxNeed (l.map PV.plc) name = CA at *
  generalize ComeRes nxUse (l.map PV.plc) name = CU at *
  generalize ordOf (l.map PV.plc) = OO at *
  generalize idxFrom (fun x : PV => x.mod.name == name) 0 l = ix at *
  generalize (∃ i, Via (Next nxNeed (l.map (·.mod))) i i) = RR at *
  generalize Comes (nxOf false) (l.map (·.mod)) = CMF at *
  generalize Comes (nxOf true) (l.map (·.mod)) = CMT at *
  generalize nameAt (l.map (·.mod)) = nA at *
  generalize orderFrom (risen (l.map PV.plc)) (risen (l.map PV.plc)).length [] = OF at *
  generalize l.length = ll at *
  go_enter Try.func8, Try.ntmps8
  go_wp2_with fail
  refine HN.out.mono ?_
  rintro e w1 ⟨⟨r1, xs, rfl, R1, hx⟩, B1⟩
  obtain ⟨a1, c1, rfl, _⟩ := id R1
  clear HN
  go_wp2_with fail
  refine (HU.out _ B1).mono ?_
  rintro e w2 ⟨⟨r2, ys, rfl, U2, hy⟩, b2⟩
  obtain ⟨a2, c2, rfl, _⟩ := id U2
  have B2 := B1.trans (b2.mono B1.size)
  have R2 := (R1.below b2).more b2.size
  clear HU b2 R1 B1
  go_wp2_with fail
  refine (HO.out _ B2).mono ?_
  rintro e w3 ⟨⟨r3, rfl, O3, _⟩, b3⟩
  obtain ⟨a3, c3, rfl, _⟩ := id O3
  have B3 := B2.trans (b3.mono B2.size)
  have R3 := (R2.below b3).more b3.size
  have U3 := (U2.below b3).more b3.size
  clear HO b3 R2 U2 B2
  go_wp2_with fail
  refine (HC.out _ B3).mono ?_
  rintro e w4 ⟨rfl, b4⟩
  have B4 := B3.trans (b4.mono B3.size)
  have R4 := (R3.below b4).more b4.size
  have U4 := (U3.below b4).more b4.size
  have O4 := (O3.below b4).more b4.size
  clear HC b4 R3 U3 O3 B3
  rcases key with ⟨h0, h1, h2⟩ | ⟨h0, hA, hB⟩
  · subst h2
    subst h1
    obtain rfl := HE1.out xs hx h0
    obtain rfl := HE2.out ys hy h0
    have h0' : (ce == 0) = false := by simpa using h0
    have hee : (ce == ce) = true := by simp
    have NA := rowNil w4
    have NB := rowNil w4
    have NC := rowNil w4
    clear HIR HNO1 HNO2 HOO HE1 HE2 HS1 HS2 hx hy HP h0
    dsimp only at *
    go_wp2_with fail
    refine (graphBegun_any _).mono ?_
    rintro e v5 ⟨rfl, b25⟩
    have BB5 := B4.trans (b25.mono B4.size)
    have R4q := (R4.below b25).more b25.size
    have U4q := (U4.below b25).more b25.size
    have O4q := (O4.below b25).more b25.size
    have NAq := (NA.below b25).more b25.size
    have NBq := (NB.below b25).more b25.size
    have NCq := (NC.below b25).more b25.size
    clear R4 U4 O4 NA NB NC
    clear b25 B4
    have HQA : Hid (Calls Try.prog 36 _ v5 fun e w' => _) := sameTexts_yes _ _ _ v5 R4q NAq
    clear R4q NAq
    go_wp2_with fail
    refine (HQA.out).mono ?_
    rintro e v6 ⟨rfl, b26⟩
    have BB6 := BB5.trans (b26.mono BB5.size)
    have U4qq := (U4q.below b26).more b26.size
    have O4qq := (O4q.below b26).more b26.size
    have NBqq := (NBq.below b26).more b26.size
    have NCqq := (NCq.below b26).more b26.size
    clear U4q O4q NBq NCq
    clear b26 BB5
    have HQB : Hid (Calls Try.prog 36 _ v6 fun e w' => _) := sameTexts_yes _ _ _ v6 U4qq NBqq
    clear U4qq NBqq
    go_wp2_with fail
    refine (HQB.out).mono ?_
    rintro e v7 ⟨rfl, b27⟩
    have BB7 := BB6.trans (b27.mono BB6.size)
    have O4qqq := (O4qq.below b27).more b27.size
    have NCqqq := (NCqq.below b27).more b27.size
    clear O4qq NCqq
    clear b27 BB6
    have HQC : Hid (Calls Try.prog 36 _ v7 fun e w' => _) := sameTexts_yes _ _ _ v7 O4qqq NCqqq
    clear O4qqq NCqqq
    go_wp2_with fail
    refine (HQC.out).mono ?_
    rintro e v8 ⟨rfl, b28⟩
    have BB8 := BB7.trans (b28.mono BB7.size)
    clear b28 BB7
    go_wp2
    go_ret
    exact ⟨rfl, BB8⟩
  · subst h0
    rcases hA with ⟨h1, h2⟩ | ⟨f, hf, h1, h2, h3⟩
    · subst h1 h2
      rcases hB with ⟨h4, hR⟩ | ⟨c, hc, h4, hR⟩
      · subst h4
        obtain rfl := HE1.out xs hx (by decide)
        obtain rfl := HE2.out ys hy (by decide)
        have HRR : Hid (true = true ↔ RR) := ⟨fun _ => hR, fun _ => rfl⟩
        have HIR2 : Hid (∀ W, Below w.heap.size w W → Calls Try.prog 32 #[.slice va ll vc] W fun e w' => e = .returned (.bool true) ∧ Below W.heap.size W w') := fun W hb => HIR.out (by first | rfl | trivial) W true hb HRR.out
        clear HIR HNO1 HNO2 HOO HE1 HE2 HS1 HS2 hx hy HRR hR
        dsimp only at *
        go_wp2_with fail
        refine (HP.out _ B4).mono ?_
        rintro e v5 ⟨rfl, b25⟩
        have BB5 := B4.trans (b25.mono B4.size)
        have R4q := (R4.below b25).more b25.size
        have U4q := (U4.below b25).more b25.size
        have O4q := (O4.below b25).more b25.size
        clear R4 U4 O4
        clear b25 B4
        go_wp2_with fail
        refine (HIR2.out _ BB5).mono ?_
        rintro e v6 ⟨rfl, b26⟩
        have BB6 := BB5.trans (b26.mono BB5.size)
        have R4qq := (R4q.below b26).more b26.size
        have U4qq := (U4q.below b26).more b26.size
        have O4qq := (O4q.below b26).more b26.size
        clear R4q U4q O4q
        clear b26 BB5
        have NA := rowNil v6
        have NB := rowNil v6
        have NC := rowNil v6
        go_wp2_with fail
        refine (graphBegun_any _).mono ?_
        rintro e v7 ⟨rfl, b27⟩
        have BB7 := BB6.trans (b27.mono BB6.size)
        have R4qqq := (R4qq.below b27).more b27.size
        have U4qqq := (U4qq.below b27).more b27.size
        have O4qqq := (O4qq.below b27).more b27.size
        have NAq := (NA.below b27).more b27.size
        have NBq := (NB.below b27).more b27.size
        have NCq := (NC.below b27).more b27.size
        clear R4qq U4qq O4qq NA NB NC
        clear b27 BB6
        have HQA : Hid (Calls Try.prog 36 _ v7 fun e w' => _) := sameTexts_yes _ _ _ v7 R4qqq NAq
        clear R4qqq NAq
        go_wp2_with fail
        refine (HQA.out).mono ?_
        rintro e v8 ⟨rfl, b28⟩
        have BB8 := BB7.trans (b28.mono BB7.size)
        have U4qqqq := (U4qqq.below b28).more b28.size
        have O4qqqq := (O4qqq.below b28).more b28.size
        have NBqq := (NBq.below b28).more b28.size
        have NCqq := (NCq.below b28).more b28.size
        clear U4qqq O4qqq NBq NCq
        clear b28 BB7
        have HQB : Hid (Calls Try.prog 36 _ v8 fun e w' => _) := sameTexts_yes _ _ _ v8 U4qqqq NBqq
        clear U4qqqq NBqq
        go_wp2_with fail
        refine (HQB.out).mono ?_
        rintro e v9 ⟨rfl, b29⟩
        have BB9 := BB8.trans (b29.mono BB8.size)
        have O4qqqqq := (O4qqqq.below b29).more b29.size
        have NCqqq := (NCqq.below b29).more b29.size
        clear O4qqqq NCqq
        clear b29 BB8
        have HQC : Hid (Calls Try.prog 36 _ v9 fun e w' => _) := sameTexts_yes _ _ _ v9 O4qqqqq NCqqq
        clear O4qqqqq NCqqq
        go_wp2_with fail
        refine (HQC.out).mono ?_
        rintro e v10 ⟨rfl, b30⟩
        have BB10 := BB9.trans (b30.mono BB9.size)
        clear b30 BB9
        go_wp2
        go_ret
        exact ⟨rfl, BB10⟩
      · subst h4
        obtain rfl := HE1.out xs hx (by decide)
        obtain rfl := HE2.out ys hy (by decide)
        have HRR : Hid (false = true ↔ RR) := ⟨fun h => (by cases h), fun h => absurd h hR⟩
        have HIR2 : Hid (∀ W, Below w.heap.size w W → Calls Try.prog 32 #[.slice va ll vc] W fun e w' => e = .returned (.bool false) ∧ Below W.heap.size W w') := fun W hb => HIR.out (by first | rfl | trivial) W false hb HRR.out
        have HOO2 : Hid (∀ W, Below w.heap.size w W → Calls Try.prog 34 #[.slice va ll vc] W fun e w' => (∃ r, e = .returned r ∧ RowOf 1 strCell w'.heap.size w' r c) ∧ Below W.heap.size W w') := HOO.out (by first | rfl | trivial) c hc
        clear HIR HNO1 HNO2 HOO HE1 HE2 HS1 HS2 hx hy HRR hR hc
        dsimp only at *
        go_wp2_with fail
        refine (HP.out _ B4).mono ?_
        rintro e v5 ⟨rfl, b25⟩
        have BB5 := B4.trans (b25.mono B4.size)
        have R4q := (R4.below b25).more b25.size
        have U4q := (U4.below b25).more b25.size
        have O4q := (O4.below b25).more b25.size
        clear R4 U4 O4
        clear b25 B4
        go_wp2_with fail
        refine (HIR2.out _ BB5).mono ?_
        rintro e v6 ⟨rfl, b26⟩
        have BB6 := BB5.trans (b26.mono BB5.size)
        have R4qq := (R4q.below b26).more b26.size
        have U4qq := (U4q.below b26).more b26.size
        have O4qq := (O4q.below b26).more b26.size
        clear R4q U4q O4q
        clear b26 BB5
        have NA := rowNil v6
        have NB := rowNil v6
        go_wp2_with fail
        refine (HOO2.out _ BB6).mono ?_
        rintro e v7 ⟨⟨q3, rfl, NC⟩, b27⟩
        have BB7 := BB6.trans (b27.mono BB6.size)
        have R4qqq := (R4qq.below b27).more b27.size
        have U4qqq := (U4qq.below b27).more b27.size
        have O4qqq := (O4qq.below b27).more b27.size
        have NAq := (NA.below b27).more b27.size
        have NBq := (NB.below b27).more b27.size
        clear R4qq U4qq O4qq NA NB
        clear b27 BB6
        obtain ⟨d3, k3, rfl, _⟩ := id NC
        clear HOO2
        go_wp2_with fail
        refine (graphBegun_any _).mono ?_
        rintro e v8 ⟨rfl, b28⟩
        have BB8 := BB7.trans (b28.mono BB7.size)
        have R4qqqq := (R4qqq.below b28).more b28.size
        have U4qqqq := (U4qqq.below b28).more b28.size
        have O4qqqq := (O4qqq.below b28).more b28.size
        have NAqq := (NAq.below b28).more b28.size
        have NBqq := (NBq.below b28).more b28.size
        have NCq := (NC.below b28).more b28.size
        clear R4qqq U4qqq O4qqq NAq NBq NC
        clear b28 BB7
        have HQA : Hid (Calls Try.prog 36 _ v8 fun e w' => _) := sameTexts_yes _ _ _ v8 R4qqqq NAqq
        clear R4qqqq NAqq
        go_wp2_with fail
        refine (HQA.out).mono ?_
        rintro e v9 ⟨rfl, b29⟩
        have BB9 := BB8.trans (b29.mono BB8.size)
        have U4qqqqq := (U4qqqq.below b29).more b29.size
        have O4qqqqq := (O4qqqq.below b29).more b29.size
        have NBqqq := (NBqq.below b29).more b29.size
        have NCqq := (NCq.below b29).more b29.size
        clear U4qqqq O4qqqq NBqq NCq
        clear b29 BB8
        have HQB : Hid (Calls Try.prog 36 _ v9 fun e w' => _) := sameTexts_yes _ _ _ v9 U4qqqqq NBqqq
        clear U4qqqqq NBqqq
        go_wp2_with fail
        refine (HQB.out).mono ?_
        rintro e v10 ⟨rfl, b30⟩
        have BB10 := BB9.trans (b30.mono BB9.size)
        have O4qqqqqq := (O4qqqqq.below b30).more b30.size
        have NCqqq := (NCqq.below b30).more b30.size
        clear O4qqqqq NCqq
        clear b30 BB9
        have HQC : Hid (Calls Try.prog 36 _ v10 fun e w' => _) := sameTexts_yes _ _ _ v10 O4qqqqqq NCqqq
        clear O4qqqqqq NCqqq
        go_wp2_with fail
        refine (HQC.out).mono ?_
        rintro e v11 ⟨rfl, b31⟩
        have BB11 := BB10.trans (b31.mono BB10.size)
        clear b31 BB10
        go_wp2
        go_ret
        exact ⟨rfl, BB11⟩
    · subst h1 h2
      rcases hB with ⟨h4, hR⟩ | ⟨c, hc, h4, hR⟩
      · subst h4
        have HRR : Hid (true = true ↔ RR) := ⟨fun _ => hR, fun _ => rfl⟩
        have HSA : Hid (∀ rs, CMF f rs → xs = rs) := fun rs hr => HS1.out f xs rs hx (by first | rfl | trivial) hf h3 hr
        have HSB : Hid (∀ rs, CMT f rs → ys = rs) := fun rs hr => HS2.out f ys rs hy (by first | rfl | trivial) hf h3 hr
        have HNF1 : Hid (∀ W, Below w.heap.size w W → Calls Try.prog 33 #[.slice va ll vc, .string name, .bool false] W fun e w' => (∃ r rs, e = .returned r ∧ RowOf 1 strCell w'.heap.size w' r rs ∧ CMF f rs) ∧ Below W.heap.size W w') := HNO1.out (by first | rfl | trivial) f hf (by first | rfl | trivial)
        have HNF2 : Hid (∀ W, Below w.heap.size w W → Calls Try.prog 33 #[.slice va ll vc, .string name, .bool true] W fun e w' => (∃ r rs, e = .returned r ∧ RowOf 1 strCell w'.heap.size w' r rs ∧ CMT f rs) ∧ Below W.heap.size W w') := HNO2.out (by first | rfl | trivial) f hf (by first | rfl | trivial)
        have HIR2 : Hid (∀ W, Below w.heap.size w W → Calls Try.prog 32 #[.slice va ll vc] W fun e w' => e = .returned (.bool true) ∧ Below W.heap.size W w') := fun W hb => HIR.out (by first | rfl | trivial) W true hb HRR.out
        clear HIR HNO1 HNO2 HOO HE1 HE2 HS1 HS2 hx hy HRR hR
        dsimp only at *
        go_wp2_with fail
        refine (HP.out _ B4).mono ?_
        rintro e v5 ⟨rfl, b25⟩
        have BB5 := B4.trans (b25.mono B4.size)
        have R4q := (R4.below b25).more b25.size
        have U4q := (U4.below b25).more b25.size
        have O4q := (O4.below b25).more b25.size
        clear R4 U4 O4
        clear b25 B4
        go_wp2_with fail
        refine (HIR2.out _ BB5).mono ?_
        rintro e v6 ⟨rfl, b26⟩
        have BB6 := BB5.trans (b26.mono BB5.size)
        have R4qq := (R4q.below b26).more b26.size
        have U4qq := (U4q.below b26).more b26.size
        have O4qq := (O4q.below b26).more b26.size
        clear R4q U4q O4q
        clear b26 BB5
        go_wp2_with fail
        refine (HNF1.out _ BB6).mono ?_
        rintro e v7 ⟨⟨q1, rs1, rfl, NA, hn1⟩, b27⟩
        have BB7 := BB6.trans (b27.mono BB6.size)
        have R4qqq := (R4qq.below b27).more b27.size
        have U4qqq := (U4qq.below b27).more b27.size
        have O4qqq := (O4qq.below b27).more b27.size
        clear R4qq U4qq O4qq
        clear b27 BB6
        obtain rfl := HSA.out rs1 hn1
        obtain ⟨d1, k1, rfl, _⟩ := id NA
        clear HNF1 HSA hn1
        go_wp2_with fail
        refine (HNF2.out _ BB7).mono ?_
        rintro e v8 ⟨⟨q2, rs2, rfl, NB, hn2⟩, b28⟩
        have BB8 := BB7.trans (b28.mono BB7.size)
        have R4qqqq := (R4qqq.below b28).more b28.size
        have U4qqqq := (U4qqq.below b28).more b28.size
        have O4qqqq := (O4qqq.below b28).more b28.size
        have NAq := (NA.below b28).more b28.size
        clear R4qqq U4qqq O4qqq NA
        clear b28 BB7
        obtain rfl := HSB.out rs2 hn2
        obtain ⟨d2, k2, rfl, _⟩ := id NB
        clear HNF2 HSB hn2
        have NC := rowNil v8
        go_wp2_with fail
        refine (graphBegun_any _).mono ?_
        rintro e v9 ⟨rfl, b29⟩
        have BB9 := BB8.trans (b29.mono BB8.size)
        have R4qqqqq := (R4qqqq.below b29).more b29.size
        have U4qqqqq := (U4qqqq.below b29).more b29.size
        have O4qqqqq := (O4qqqq.below b29).more b29.size
        have NAqq := (NAq.below b29).more b29.size
        have NBq := (NB.below b29).more b29.size
        have NCq := (NC.below b29).more b29.size
        clear R4qqqq U4qqqq O4qqqq NAq NB NC
        clear b29 BB8
        have HQA : Hid (Calls Try.prog 36 _ v9 fun e w' => _) := sameTexts_yes _ _ _ v9 R4qqqqq NAqq
        clear R4qqqqq NAqq
        go_wp2_with fail
        refine (HQA.out).mono ?_
        rintro e v10 ⟨rfl, b30⟩
        have BB10 := BB9.trans (b30.mono BB9.size)
        have U4qqqqqq := (U4qqqqq.below b30).more b30.size
        have O4qqqqqq := (O4qqqqq.below b30).more b30.size
        have NBqq := (NBq.below b30).more b30.size
        have NCqq := (NCq.below b30).more b30.size
        clear U4qqqqq O4qqqqq NBq NCq
        clear b30 BB9
        have HQB : Hid (Calls Try.prog 36 _ v10 fun e w' => _) := sameTexts_yes _ _ _ v10 U4qqqqqq NBqq
        clear U4qqqqqq NBqq
        go_wp2_with fail
        refine (HQB.out).mono ?_
        rintro e v11 ⟨rfl, b31⟩
        have BB11 := BB10.trans (b31.mono BB10.size)
        have O4qqqqqqq := (O4qqqqqq.below b31).more b31.size
        have NCqqq := (NCqq.below b31).more b31.size
        clear O4qqqqqq NCqq
        clear b31 BB10
        have HQC : Hid (Calls Try.prog 36 _ v11 fun e w' => _) := sameTexts_yes _ _ _ v11 O4qqqqqqq NCqqq
        clear O4qqqqqqq NCqqq
        go_wp2_with fail
        refine (HQC.out).mono ?_
        rintro e v12 ⟨rfl, b32⟩
        have BB12 := BB11.trans (b32.mono BB11.size)
        clear b32 BB11
        go_wp2
        go_ret
        exact ⟨rfl, BB12⟩
      · subst h4
        have HRR : Hid (false = true ↔ RR) := ⟨fun h => (by cases h), fun h => absurd h hR⟩
        have HSA : Hid (∀ rs, CMF f rs → xs = rs) := fun rs hr => HS1.out f xs rs hx (by first | rfl | trivial) hf h3 hr
        have HSB : Hid (∀ rs, CMT f rs → ys = rs) := fun rs hr => HS2.out f ys rs hy (by first | rfl | trivial) hf h3 hr
        have HNF1 : Hid (∀ W, Below w.heap.size w W → Calls Try.prog 33 #[.slice va ll vc, .string name, .bool false] W fun e w' => (∃ r rs, e = .returned r ∧ RowOf 1 strCell w'.heap.size w' r rs ∧ CMF f rs) ∧ Below W.heap.size W w') := HNO1.out (by first | rfl | trivial) f hf (by first | rfl | trivial)
        have HNF2 : Hid (∀ W, Below w.heap.size w W → Calls Try.prog 33 #[.slice va ll vc, .string name, .bool true] W fun e w' => (∃ r rs, e = .returned r ∧ RowOf 1 strCell w'.heap.size w' r rs ∧ CMT f rs) ∧ Below W.heap.size W w') := HNO2.out (by first | rfl | trivial) f hf (by first | rfl | trivial)
        have HIR2 : Hid (∀ W, Below w.heap.size w W → Calls Try.prog 32 #[.slice va ll vc] W fun e w' => e = .returned (.bool false) ∧ Below W.heap.size W w') := fun W hb => HIR.out (by first | rfl | trivial) W false hb HRR.out
        have HOO2 : Hid (∀ W, Below w.heap.size w W → Calls Try.prog 34 #[.slice va ll vc] W fun e w' => (∃ r, e = .returned r ∧ RowOf 1 strCell w'.heap.size w' r c) ∧ Below W.heap.size W w') := HOO.out (by first | rfl | trivial) c hc
        clear HIR HNO1 HNO2 HOO HE1 HE2 HS1 HS2 hx hy HRR hR hc
        dsimp only at *
        go_wp2_with fail
        refine (HP.out _ B4).mono ?_
        rintro e v5 ⟨rfl, b25⟩
        have BB5 := B4.trans (b25.mono B4.size)
        have R4q := (R4.below b25).more b25.size
        have U4q := (U4.below b25).more b25.size
        have O4q := (O4.below b25).more b25.size
        clear R4 U4 O4
        clear b25 B4
        go_wp2_with fail
        refine (HIR2.out _ BB5).mono ?_
        rintro e v6 ⟨rfl, b26⟩
        have BB6 := BB5.trans (b26.mono BB5.size)
        have R4qq := (R4q.below b26).more b26.size
        have U4qq := (U4q.below b26).more b26.size
        have O4qq := (O4q.below b26).more b26.size
        clear R4q U4q O4q
        clear b26 BB5
        go_wp2_with fail
        refine (HNF1.out _ BB6).mono ?_
        rintro e v7 ⟨⟨q1, rs1, rfl, NA, hn1⟩, b27⟩
        have BB7 := BB6.trans (b27.mono BB6.size)
        have R4qqq := (R4qq.below b27).more b27.size
        have U4qqq := (U4qq.below b27).more b27.size
        have O4qqq := (O4qq.below b27).more b27.size
        clear R4qq U4qq O4qq
        clear b27 BB6
        obtain rfl := HSA.out rs1 hn1
        obtain ⟨d1, k1, rfl, _⟩ := id NA
        clear HNF1 HSA hn1
        go_wp2_with fail
        refine (HNF2.out _ BB7).mono ?_
        rintro e v8 ⟨⟨q2, rs2, rfl, NB, hn2⟩, b28⟩
        have BB8 := BB7.trans (b28.mono BB7.size)
        have R4qqqq := (R4qqq.below b28).more b28.size
        have U4qqqq := (U4qqq.below b28).more b28.size
        have O4qqqq := (O4qqq.below b28).more b28.size
        have NAq := (NA.below b28).more b28.size
        clear R4qqq U4qqq O4qqq NA
        clear b28 BB7
        obtain rfl := HSB.out rs2 hn2
        obtain ⟨d2, k2, rfl, _⟩ := id NB
        clear HNF2 HSB hn2
        go_wp2_with fail
        refine (HOO2.out _ BB8).mono ?_
        rintro e v9 ⟨⟨q3, rfl, NC⟩, b29⟩
        have BB9 := BB8.trans (b29.mono BB8.size)
        have R4qqqqq := (R4qqqq.below b29).more b29.size
        have U4qqqqq := (U4qqqq.below b29).more b29.size
        have O4qqqqq := (O4qqqq.below b29).more b29.size
        have NAqq := (NAq.below b29).more b29.size
        have NBq := (NB.below b29).more b29.size
        clear R4qqqq U4qqqq O4qqqq NAq NB
        clear b29 BB8
        obtain ⟨d3, k3, rfl, _⟩ := id NC
        clear HOO2
        go_wp2_with fail
        refine (graphBegun_any _).mono ?_
        rintro e v10 ⟨rfl, b30⟩
        have BB10 := BB9.trans (b30.mono BB9.size)
        have R4qqqqqq := (R4qqqqq.below b30).more b30.size
        have U4qqqqqq := (U4qqqqq.below b30).more b30.size
        have O4qqqqqq := (O4qqqqq.below b30).more b30.size
        have NAqqq := (NAqq.below b30).more b30.size
        have NBqq := (NBq.below b30).more b30.size
        have NCq := (NC.below b30).more b30.size
        clear R4qqqqq U4qqqqq O4qqqqq NAqq NBq NC
        clear b30 BB9
        have HQA : Hid (Calls Try.prog 36 _ v10 fun e w' => _) := sameTexts_yes _ _ _ v10 R4qqqqqq NAqqq
        clear R4qqqqqq NAqqq
        go_wp2_with fail
        refine (HQA.out).mono ?_
        rintro e v11 ⟨rfl, b31⟩
        have BB11 := BB10.trans (b31.mono BB10.size)
        have U4qqqqqqq := (U4qqqqqq.below b31).more b31.size
        have O4qqqqqqq := (O4qqqqqq.below b31).more b31.size
        have NBqqq := (NBqq.below b31).more b31.size
        have NCqq := (NCq.below b31).more b31.size
        clear U4qqqqqq O4qqqqqq NBqq NCq
        clear b31 BB10
        have HQB : Hid (Calls Try.prog 36 _ v11 fun e w' => _) := sameTexts_yes _ _ _ v11 U4qqqqqqq NBqqq
        clear U4qqqqqqq NBqqq
        go_wp2_with fail
        refine (HQB.out).mono ?_
        rintro e v12 ⟨rfl, b32⟩
        have BB12 := BB11.trans (b32.mono BB11.size)
        have O4qqqqqqqq := (O4qqqqqqq.below b32).more b32.size
        have NCqqq := (NCqq.below b32).more b32.size
        clear O4qqqqqqq NCqq
        clear b32 BB11
        have HQC : Hid (Calls Try.prog 36 _ v12 fun e w' => _) := sameTexts_yes _ _ _ v12 O4qqqqqqqq NCqqq
        clear O4qqqqqqqq NCqqq
        go_wp2_with fail
        refine (HQC.out).mono ?_
        rintro e v13 ⟨rfl, b33⟩
        have BB13 := BB12.trans (b33.mono BB12.size)
        clear b33 BB12
        go_wp2
        go_ret
        exact ⟨rfl, BB13⟩

end Go.Proofs.Ytaklbnabgcglhab.graphTells

/- Arguments that came in: texts, numbers, rows, a patch. -/
namespace Go.Proofs.Ytaklbnabgcglhab
open Go.ChangeShapes Go.WideShapes Go.ChangeAt Go.RowKit Go.PlainAid Go.Deep

set_option maxRecDepth 100000

theorem list7 {α : Type} {l : List α} (h : l.length = 7) : ∃ a b c d e f g, l = [a, b, c, d, e, f, g] := by
  match l, h with
  | [a, b, c, d, e, f, g], _ => exact ⟨a, b, c, d, e, f, g, rfl⟩
theorem list4 {α : Type} {l : List α} (h : l.length = 4) : ∃ a b c d, l = [a, b, c, d] := by
  match l, h with
  | [a, b, c, d], _ => exact ⟨a, b, c, d, rfl⟩
theorem list2 {α : Type} {l : List α} (h : l.length = 2) : ∃ a b, l = [a, b] := by
  match l, h with
  | [a, b], _ => exact ⟨a, b, rfl⟩

section
variable {H : Type} {enc : TypeId × Value → H} {W : World} {spare : Nat → Bool} {held : Bool}

theorem row_of_trod {α : Type} [Inhabited α] {t e : TypeId} {sz fuel : Nat} {c : Value} {y : DataW H × List MemPlace} {cells : α → Nat → Value} {good : α → Prop} (ht : Try.prog.underlying t = some (.slice e)) (hsz : Try.prog.cellsOf e = sz) (h0 : 0 < sz)
    (conv : ∀ n cs z, cs.length = sz → DataW.trod enc Try.prog W 0 spare held n e cs = some z → ∃ x : α, (∀ i, i < sz → cs[i]? = some (cells x i)) ∧ good x)
    (h : DataW.trod enc Try.prog W 0 spare held fuel t [c] = some y) : ∃ l : List α, RowOf sz cells W.heap.size W c l ∧ ∀ x ∈ l, good x := by
  rcases open_slice ht h with ⟨hc, _⟩ | ⟨a, len, cap, m, n, D, Pl, hc, _, hl, hm, hmm, _, hx⟩
  · injection hc with hc
    subst hc
    exact ⟨[], ⟨none, 0, rfl, Nat.zero_le _, .inl rfl⟩, by simp⟩
  · injection hc with hc
    subst hc
    rw [hsz] at hx
    have hle : len ≤ m := by rw [hmm]; split <;> omega
    obtain ⟨X, hX⟩ := choose_lt (α := α) (n := len) (p := fun i x => (∀ j, j < sz → W.cell? (a.add (i * sz + j)) = some (cells x j)) ∧ good x) (fun i hi => by
      obtain ⟨cs', h1, h2⟩ := hx i (by omega)
      obtain ⟨_, hlen, hcell⟩ := World.cells?_some h1
      obtain ⟨x, hx1, hx2⟩ := conv n cs' _ hlen h2
      refine ⟨x, fun j hj => ?_, hx2⟩
      have h3 := hcell j hj
      rw [hx1 j hj] at h3
      have hadd : (a.add (i * sz)).add j = a.add (i * sz + j) ∨ W.cell? ((a.add (i * sz)).add j) = W.cell? (a.add (i * sz + j)) := by
        unfold Addr.add
        by_cases e1 : i * sz = 0
        · rw [if_pos e1, e1, Nat.zero_add]; exact .inl rfl
        · rw [if_neg e1]
          by_cases e2 : j = 0
          · rw [if_pos e2, e2, Nat.add_zero, if_neg e1]; exact .inl rfl
          · rw [if_neg e2, if_neg (by omega), Nat.add_assoc]; exact .inl rfl
      rcases hadd with hadd | hadd
      · rw [← hadd]; exact h3
      · rw [← hadd]; exact h3)
    refine ⟨(List.range len).map X, ⟨some a, cap, by simp, by simp; unfold maxLen at hm; omega, ?_⟩, ?_⟩
    · by_cases hz : len = 0
      · left
        subst hz
        rfl
      · right
        have hc0 := (hX 0 (by omega)).1 0 h0
        rw [Nat.zero_mul, Nat.zero_add] at hc0
        obtain ⟨b, off, spot⟩ := a
        have hsp : spot = none := by simpa [Addr.add] using World.cell?_spot hc0
        subst hsp
        refine ⟨b, off, rfl, ?_, fun j x hj i hi => ?_⟩
        · have := World.block_lt_of_cell? W _ hc0
          simpa [Addr.add] using this
        · have hjl : j < len := by
            have := (List.getElem?_eq_some_iff.1 hj).1
            simpa using this
          obtain rfl : X j = x := by
            rw [List.getElem?_map, List.getElem?_range hjl] at hj
            simpa using hj
          have h4 := (hX j hjl).1 i hi
          unfold Addr.add at h4
          by_cases e0 : j * sz + i = 0
          · rw [if_pos e0] at h4
            rw [Nat.add_assoc, e0]
            exact h4
          · rw [if_neg e0] at h4
            rw [Nat.add_assoc]
            exact h4
    · intro x hx
      obtain ⟨i, hi, rfl⟩ := List.mem_map.1 hx
      exact (hX i (by simpa using hi)).2

theorem str_of_trod {n : Nat} {c : Value} {y : DataW H × List MemPlace} (h : DataW.trod enc Try.prog W 0 spare held n 9 [c] = some y) : ∃ s : ByteArray, c = .string s ∧ s.size ≤ 9223372036854775807 := by
  obtain ⟨s, hc, _, hs⟩ := DataW.trod_string Try.underlying9 h
  injection hc with hc
  exact ⟨s, hc, hs⟩
theorem int_of_trod {n : Nat} {c : Value} {y : DataW H × List MemPlace} (h : DataW.trod enc Try.prog W 0 spare held n 3 [c] = some y) : ∃ k : Int, c = .int .i64 k := by
  obtain ⟨k, hc, _, _⟩ := DataW.trod_int Try.underlying3 h
  injection hc with hc
  exact ⟨k, hc⟩

theorem exp_of_trod (n : Nat) (cs : List Value) (z : DataW H × List MemPlace) (hl : cs.length = 2) (h : DataW.trod enc Try.prog W 0 spare held n 118 cs = some z) : ∃ x : Exp, (∀ i, i < 2 → cs[i]? = some (Exp.cell x i)) ∧ x.name.size ≤ 9223372036854775807 := by
  obtain ⟨xs, m, _, _, _, hlen, hf⟩ := DataW.trod_struct Try.underlying118 h
  obtain ⟨x0, x1, rfl⟩ := list2 hlen
  obtain ⟨c0, c1, rfl⟩ := list2 hl
  obtain ⟨s, rfl, hs⟩ := str_of_trod (hf 0 _ rfl)
  obtain ⟨k, rfl⟩ := int_of_trod (hf 1 _ rfl)
  refine ⟨⟨s, k⟩, fun i hi => ?_, hs⟩
  have : i = 0 ∨ i = 1 := by omega
  rcases this with rfl | rfl <;> rfl
theorem imp_of_trod (n : Nat) (cs : List Value) (z : DataW H × List MemPlace) (hl : cs.length = 4) (h : DataW.trod enc Try.prog W 0 spare held n 40 cs = some z) : ∃ x : Imp, (∀ i, i < 4 → cs[i]? = some (Imp.cell x i)) ∧ x.fits := by
  obtain ⟨xs, m, _, _, _, hlen, hf⟩ := DataW.trod_struct Try.underlying40 h
  obtain ⟨x0, x1, x2, x3, rfl⟩ := list4 hlen
  obtain ⟨c0, c1, c2, c3, rfl⟩ := list4 hl
  obtain ⟨s, rfl, hs⟩ := str_of_trod (hf 0 _ rfl)
  obtain ⟨t, rfl, ht⟩ := str_of_trod (hf 1 _ rfl)
  obtain ⟨k, rfl⟩ := int_of_trod (hf 2 _ rfl)
  obtain ⟨j, rfl⟩ := int_of_trod (hf 3 _ rfl)
  refine ⟨⟨s, t, k, j⟩, fun i hi => ?_, ⟨hs, ht⟩⟩
  have : i = 0 ∨ i = 1 ∨ i = 2 ∨ i = 3 := by omega
  rcases this with rfl | rfl | rfl | rfl <;> rfl
theorem pat_of_trod (n : Nat) (cs : List Value) (z : DataW H × List MemPlace) (hl : cs.length = 4) (h : DataW.trod enc Try.prog W 0 spare held n 23 cs = some z) : ∃ x : Pat, (∀ i, i < 4 → cs[i]? = some (Pat.cell x i)) ∧ True := by
  obtain ⟨xs, m, _, _, _, hlen, hf⟩ := DataW.trod_struct Try.underlying23 h
  obtain ⟨x0, x1, x2, x3, rfl⟩ := list4 hlen
  obtain ⟨c0, c1, c2, c3, rfl⟩ := list4 hl
  obtain ⟨a, rfl⟩ := int_of_trod (hf 0 _ rfl)
  obtain ⟨b, rfl⟩ := int_of_trod (hf 1 _ rfl)
  obtain ⟨k, rfl⟩ := int_of_trod (hf 2 _ rfl)
  obtain ⟨j, rfl⟩ := int_of_trod (hf 3 _ rfl)
  refine ⟨⟨a, b, k, j⟩, fun i hi => ?_, trivial⟩
  have : i = 0 ∨ i = 1 ∨ i = 2 ∨ i = 3 := by omega
  rcases this with rfl | rfl | rfl | rfl <;> rfl

theorem open_patch {v : Value} {d : DataW H} {ps : List MemPlace} {base : Nat} (hv : Value.okWide Try.prog W .any base 23 v) (h : DataW.Trod enc Try.prog W 0 spare held 23 v d ps) : ∃ p : Pat, v = .agg #[.int .i64 p.kind, .int .i64 p.pos, .int .i64 p.sym, .int .i64 p.add] := by
  obtain ⟨cs, rfl, hcs⟩ := okWide_struct Try.underlying23 hv
  obtain ⟨fuel, hf⟩ := h
  obtain ⟨xs, m, _, _, hl, hlen, hf⟩ := DataW.trod_struct Try.underlying23 hf
  have hc4 : Try.prog.cellsOf 23 = 4 := by kernel_rfl
  obtain ⟨x0, x1, x2, x3, rfl⟩ := list4 hlen
  rw [hc4] at hl
  obtain ⟨c0, c1, c2, c3, hcl⟩ := list4 hl
  have hcs' : cs.toList = [c0, c1, c2, c3] := hcl
  have hcA : cs = #[c0, c1, c2, c3] := by rw [← Array.toArray_toList (xs := cs), hcs']
  subst hcA
  have f0 := hf 0 _ rfl
  have f1 := hf 1 _ rfl
  have f2 := hf 2 _ rfl
  have f3 := hf 3 _ rfl
  obtain ⟨a, rfl⟩ := int_of_trod f0
  obtain ⟨b, rfl⟩ := int_of_trod f1
  obtain ⟨c, rfl⟩ := int_of_trod f2
  obtain ⟨e, rfl⟩ := int_of_trod f3
  exact ⟨⟨a, b, c, e⟩, rfl⟩
end

end Go.Proofs.Ytaklbnabgcglhab

/- A module that came in. -/
namespace Go.Proofs.Ytaklbnabgcglhab
open Go.ChangeShapes Go.WideShapes Go.ChangeAt Go.RowKit Go.PlainAid Go.Deep

set_option maxRecDepth 100000

section
variable {H : Type} {enc : TypeId × Value → H} {W : World} {spare : Nat → Bool} {held : Bool}

theorem open_module {v : Value} {d : DataW H} {ps : List MemPlace} {base : Nat} (hv : Value.okWide Try.prog W .any base 44 v) (h : DataW.Trod enc Try.prog W 0 spare held 44 v d ps) : ∃ M, IsMod W.heap.size W v M ∧ M.fits := by
  obtain ⟨cs, rfl, hcs⟩ := okWide_struct Try.underlying44 hv
  obtain ⟨fuel, hf⟩ := h
  obtain ⟨xs, m, _, _, hl, hlen, hf⟩ := DataW.trod_struct Try.underlying44 hf
  have hc7 : Try.prog.cellsOf 44 = 7 := by kernel_rfl
  obtain ⟨x0, x1, x2, x3, x4, x5, x6, rfl⟩ := list7 hlen
  rw [hc7] at hl
  obtain ⟨c0, c1, c2, c3, c4, c5, c6, hcl⟩ := list7 hl
  have hcs' : cs.toList = [c0, c1, c2, c3, c4, c5, c6] := hcl
  have hcA : cs = #[c0, c1, c2, c3, c4, c5, c6] := by rw [← Array.toArray_toList (xs := cs), hcs']
  subst hcA
  have f0 := hf 0 _ rfl
  have f1 := hf 1 _ rfl
  have f2 := hf 2 _ rfl
  have f3 := hf 3 _ rfl
  have f4 := hf 4 _ rfl
  have f5 := hf 5 _ rfl
  have f6 := hf 6 _ rfl
  obtain ⟨N, rfl, hN⟩ := str_of_trod f0
  obtain ⟨a, rfl⟩ := int_of_trod f1
  obtain ⟨b, rfl⟩ := int_of_trod f2
  obtain ⟨T, rfl, hT⟩ := str_of_trod f3
  have _ : Inhabited Exp := ⟨⟨⟨#[]⟩, 0⟩⟩
  have _ : Inhabited Imp := ⟨⟨⟨#[]⟩, ⟨#[]⟩, 0, 0⟩⟩
  have _ : Inhabited Pat := ⟨⟨0, 0, 0, 0⟩⟩
  obtain ⟨es, hE, gE⟩ := row_of_trod (cells := Exp.cell) Try.underlying35 (sz := 2) (by kernel_rfl) (by decide) exp_of_trod f4
  obtain ⟨is, hI, gI⟩ := row_of_trod (cells := Imp.cell) Try.underlying41 (sz := 4) (by kernel_rfl) (by decide) imp_of_trod f5
  obtain ⟨ps, hP, _⟩ := row_of_trod (cells := Pat.cell) Try.underlying42 (sz := 4) (by kernel_rfl) (by decide) pat_of_trod f6
  exact ⟨⟨N, a, b, T, es, is, ps⟩, ⟨c4, c5, c6, rfl, hE, hI, hP⟩, hN, hT, gE, gI⟩
end

end Go.Proofs.Ytaklbnabgcglhab

/- Placed modules and imports that came in. -/
namespace Go.Proofs.Ytaklbnabgcglhab
open Go.ChangeShapes Go.WideShapes Go.ChangeAt Go.RowKit Go.PlainAid Go.Deep

set_option maxRecDepth 100000

theorem list3 {α : Type} {l : List α} (h : l.length = 3) : ∃ a b c, l = [a, b, c] := by
  match l, h with
  | [a, b, c], _ => exact ⟨a, b, c, rfl⟩
theorem list8 {α : Type} {l : List α} (h : l.length = 8) : ∃ a b c d e f g k, l = [a, b, c, d, e, f, g, k] := by
  match l, h with
  | [a, b, c, d, e, f, g, k], _ => exact ⟨a, b, c, d, e, f, g, k, rfl⟩

section
variable {H : Type} {enc : TypeId × Value → H} {W : World} {spare : Nat → Bool} {held : Bool}

theorem mod_of_trod (n : Nat) (c0 c1 c2 c3 c4 c5 c6 : Value) (z : DataW H × List MemPlace) (h : DataW.trod enc Try.prog W 0 spare held n 44 [c0, c1, c2, c3, c4, c5, c6] = some z) :
    ∃ M : Mod, c0 = .string M.name ∧ c1 = .int .i64 M.major ∧ c2 = .int .i64 M.minor ∧ c3 = .string M.text ∧ RowOf 2 Exp.cell W.heap.size W c4 M.exps ∧ RowOf 4 Imp.cell W.heap.size W c5 M.imps ∧ RowOf 4 Pat.cell W.heap.size W c6 M.pats ∧ M.fits := by
  obtain ⟨xs, m, _, _, _, hlen, hf⟩ := DataW.trod_struct Try.underlying44 h
  obtain ⟨x0, x1, x2, x3, x4, x5, x6, rfl⟩ := list7 hlen
  have f0 := hf 0 _ rfl
  have f1 := hf 1 _ rfl
  have f2 := hf 2 _ rfl
  have f3 := hf 3 _ rfl
  have f4 := hf 4 _ rfl
  have f5 := hf 5 _ rfl
  have f6 := hf 6 _ rfl
  obtain ⟨N, rfl, hN⟩ := str_of_trod f0
  obtain ⟨a, rfl⟩ := int_of_trod f1
  obtain ⟨b, rfl⟩ := int_of_trod f2
  obtain ⟨T, rfl, hT⟩ := str_of_trod f3
  have _ : Inhabited Exp := ⟨⟨⟨#[]⟩, 0⟩⟩
  have _ : Inhabited Imp := ⟨⟨⟨#[]⟩, ⟨#[]⟩, 0, 0⟩⟩
  have _ : Inhabited Pat := ⟨⟨0, 0, 0, 0⟩⟩
  obtain ⟨es, hE, gE⟩ := row_of_trod (cells := Exp.cell) Try.underlying35 (sz := 2) (by kernel_rfl) (by decide) exp_of_trod f4
  obtain ⟨is, hI, gI⟩ := row_of_trod (cells := Imp.cell) Try.underlying41 (sz := 4) (by kernel_rfl) (by decide) imp_of_trod f5
  obtain ⟨ps, hP, _⟩ := row_of_trod (cells := Pat.cell) Try.underlying42 (sz := 4) (by kernel_rfl) (by decide) pat_of_trod f6
  exact ⟨⟨N, a, b, T, es, is, ps⟩, rfl, rfl, rfl, rfl, hE, hI, hP, hN, hT, gE, gI⟩

theorem plc_of_trod (n : Nat) (cs : List Value) (z : DataW H × List MemPlace) (hl : cs.length = 8) (h : DataW.trod enc Try.prog W 0 spare held n 56 cs = some z) : ∃ x : PV, (∀ i, i < 8 → cs[i]? = some (PV.cell x i)) ∧ (PlcAt W.heap.size W x ∧ x.mod.fits) := by
  obtain ⟨xs, m, _, _, _, hlen, hf⟩ := DataW.trod_struct Try.underlying56 h
  obtain ⟨x0, x1, rfl⟩ := list2 hlen
  obtain ⟨c0, c1, c2, c3, c4, c5, c6, c7, rfl⟩ := list8 hl
  have h7 : Try.prog.cellsOf 44 = 7 := by kernel_rfl
  have f0 : DataW.trod enc Try.prog W 0 spare held m 44 (([c0, c1, c2, c3, c4, c5, c6, c7].drop 0).take (Try.prog.cellsOf 44)) = some x0 := hf 0 _ rfl
  rw [h7] at f0
  obtain ⟨M, rfl, rfl, rfl, rfl, hE, hI, hP, hF⟩ := mod_of_trod m c0 c1 c2 c3 c4 c5 c6 x0 f0
  obtain ⟨k, rfl⟩ := int_of_trod (hf 1 _ rfl)
  refine ⟨⟨M, c4, c5, c6, k⟩, fun i hi => ?_, ⟨hE, hI, hP⟩, hF⟩
  have : i = 0 ∨ i = 1 ∨ i = 2 ∨ i = 3 ∨ i = 4 ∨ i = 5 ∨ i = 6 ∨ i = 7 := by omega
  rcases this with rfl | rfl | rfl | rfl | rfl | rfl | rfl | rfl <;> rfl

theorem open_import {v : Value} {d : DataW H} {ps : List MemPlace} {base : Nat} (hv : Value.okWide Try.prog W .any base 40 v) (h : DataW.Trod enc Try.prog W 0 spare held 40 v d ps) : ∃ i : Imp, v = .agg #[.string i.mod, .string i.name, .int .i64 i.major, .int .i64 i.minor] ∧ i.fits := by
  obtain ⟨cs, rfl, hcs⟩ := okWide_struct Try.underlying40 hv
  obtain ⟨fuel, hf⟩ := h
  obtain ⟨xs, m, _, _, hl, hlen, hf⟩ := DataW.trod_struct Try.underlying40 hf
  have hc4 : Try.prog.cellsOf 40 = 4 := by kernel_rfl
  obtain ⟨x0, x1, x2, x3, rfl⟩ := list4 hlen
  rw [hc4] at hl
  obtain ⟨c0, c1, c2, c3, hcl⟩ := list4 hl
  have hcs' : cs.toList = [c0, c1, c2, c3] := hcl
  have hcA : cs = #[c0, c1, c2, c3] := by rw [← Array.toArray_toList (xs := cs), hcs']
  subst hcA
  obtain ⟨s, rfl, hs⟩ := str_of_trod (hf 0 _ rfl)
  obtain ⟨t, rfl, ht⟩ := str_of_trod (hf 1 _ rfl)
  obtain ⟨a, rfl⟩ := int_of_trod (hf 2 _ rfl)
  obtain ⟨b, rfl⟩ := int_of_trod (hf 3 _ rfl)
  exact ⟨⟨s, t, a, b⟩, rfl, hs, ht⟩

theorem open_plc {v : Value} {d : DataW H} {ps : List MemPlace} {base : Nat} (hv : Value.okWide Try.prog W .any base 56 v) (h : DataW.Trod enc Try.prog W 0 spare held 56 v d ps) : ∃ x : PV, v = x.val ∧ PlcAt W.heap.size W x ∧ x.mod.fits := by
  obtain ⟨cs, rfl, hcs⟩ := okWide_struct Try.underlying56 hv
  obtain ⟨fuel, hf⟩ := h
  have hl := (DataW.trod_struct Try.underlying56 hf)
  obtain ⟨_, _, _, _, hl, _, _⟩ := hl
  have hc8 : Try.prog.cellsOf 56 = 8 := by kernel_rfl
  rw [hc8] at hl
  obtain ⟨x, hx, g1, g2⟩ := plc_of_trod _ _ _ hl hf
  obtain ⟨c0, c1, c2, c3, c4, c5, c6, c7, hcl⟩ := list8 hl
  have hcs' : cs.toList = [c0, c1, c2, c3, c4, c5, c6, c7] := hcl
  have hcA : cs = #[c0, c1, c2, c3, c4, c5, c6, c7] := by rw [← Array.toArray_toList (xs := cs), hcs']
  subst hcA
  have e0 : c0 = _ := Option.some.inj (hx 0 (by omega))
  have e1 : c1 = _ := Option.some.inj (hx 1 (by omega))
  have e2 : c2 = _ := Option.some.inj (hx 2 (by omega))
  have e3 : c3 = _ := Option.some.inj (hx 3 (by omega))
  have e4 : c4 = _ := Option.some.inj (hx 4 (by omega))
  have e5 : c5 = _ := Option.some.inj (hx 5 (by omega))
  have e6 : c6 = _ := Option.some.inj (hx 6 (by omega))
  have e7 : c7 = _ := Option.some.inj (hx 7 (by omega))
  subst e0 e1 e2 e3 e4 e5 e6 e7
  exact ⟨x, rfl, g1, g2⟩

theorem open_placed {v : Value} {d : DataW H} {ps : List MemPlace} {base : Nat} (hv : Value.okWide Try.prog W .any base 38 v) (h : DataW.Trod enc Try.prog W 0 spare held 38 v d ps) : ∃ l : List PV, IsPlcs W.heap.size W v l ∧ ∀ x ∈ l, x.mod.fits := by
  obtain ⟨a, ln, cp, rfl⟩ := okWide_slice Try.underlying38 hv
  obtain ⟨fuel, hf⟩ := h
  have _ : Inhabited PV := ⟨⟨⟨⟨#[]⟩, 0, 0, ⟨#[]⟩, [], [], []⟩, .slice none 0 0, .slice none 0 0, .slice none 0 0, 0⟩⟩
  obtain ⟨l, hL, gL⟩ := row_of_trod (α := PV) (cells := PV.cell) (good := fun x => PlcAt W.heap.size W x ∧ x.mod.fits) (c := .slice a ln cp) Try.underlying38 (sz := 8) (by kernel_rfl) (by decide) plc_of_trod hf
  exact ⟨l, ⟨hL, fun x hx => (gL x hx).1⟩, fun x hx => (gL x hx).2⟩
end

end Go.Proofs.Ytaklbnabgcglhab
