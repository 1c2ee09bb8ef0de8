/- Texts that are laid together. -/
import Derived.Test.YtlpnfbpgnfappaaGreatMrgM
import Derived.Test.YtlpnfbpgnfappaaGreatMrgH
import Derived.Test.YtlpnfbpgnfappaaGreatMrgE
import Derived.Lib.Overlaps
import Derived.Laws.Externs
import Derived.Lib.Walk
import Derived.Test.YtlpnfbpgnfappaaGreatMrgD
import Derived.Test.YtlpnfbpgnfappaaGreatMrgI

/- What becomes of placed modules, as data: one put among others, one taken out, room for so many. -/
namespace Go.Proofs.YtlpnfbpgnfappaaGreat
open Go.RowKit Go.PlainAid

theorem ix_map {α β : Type} (f : α → β) (p : β → Bool) : ∀ (l : List α) (k : Nat), ixFrom p k (l.map f) = ixFrom (fun x => p (f x)) k l
  | [], _ => rfl
  | x :: l, k => by
    have h1 : ixFrom p k ((x :: l).map f) = if p (f x) then (k : Int) else ixFrom p (k + 1) (l.map f) := rfl
    have h2 : ixFrom (fun x => p (f x)) k (x :: l) = if p (f x) then (k : Int) else ixFrom (fun x => p (f x)) (k + 1) l := rfl
    rw [h1, h2, ix_map f p l (k + 1)]
theorem ix_spec {α : Type} (p : α → Bool) : ∀ (l : List α) (k : Nat), (ixFrom p k l = -1 ∧ ∀ x ∈ l, p x = false) ∨ ∃ j x, ixFrom p k l = ((k + j : Nat) : Int) ∧ l[j]? = some x ∧ p x = true ∧ ∀ i y, i < j → l[i]? = some y → p y = false
  | [], _ => .inl ⟨rfl, by simp⟩
  | y :: l, k => by
    have h1 : ixFrom p k (y :: l) = if p y then (k : Int) else ixFrom p (k + 1) l := rfl
    cases hy : p y
    · rcases ix_spec p l (k + 1) with ⟨h2, h3⟩ | ⟨j, x, h2, h3, h4, h5⟩
      · refine .inl ⟨by rw [h1, hy, if_neg (by decide), h2], fun x hx => ?_⟩
        rcases List.mem_cons.1 hx with rfl | hx
        · exact hy
        · exact h3 x hx
      · refine .inr ⟨j + 1, x, by rw [h1, hy, if_neg (by decide), h2]; congr 1; omega, by simpa using h3, h4, fun i z hi hz => ?_⟩
        cases i with
        | zero => obtain rfl : y = z := by simpa using hz
                  exact hy
        | succ i => exact h5 i z (by omega) (by simpa using hz)
    · exact .inr ⟨0, y, by rw [h1, hy, if_pos rfl]; rfl, rfl, hy, fun i z hi _ => by omega⟩

/-- One more, ahead of those that lie behind it. -/
def putAt : List Plc → Plc → List Plc
  | [], x => [x]
  | p :: r, x => if x.first < p.first then x :: p :: r else p :: putAt r x
/-- Put at a place of a list. -/
def putI {α : Type} (l : List α) (i : Nat) (x : α) : List α := l.take i ++ x :: l.drop i
theorem putI_map {α β : Type} (f : α → β) (l : List α) (i : Nat) (x : α) : (putI l i x).map f = putI (l.map f) i (f x) := by
  unfold putI
  rw [List.map_append, List.map_cons, List.map_take, List.map_drop]
/-- Where the next one lies that is behind: all of them, if none is. -/
def putIx (L : List Plc) (f : Int) : Nat := match ixFrom (fun p : Plc => decide (f < p.first)) 0 L with | .ofNat n => n | .negSucc _ => L.length
theorem putAt_ix (x : Plc) : ∀ (L : List Plc) (j : Nat), j ≤ L.length → (∀ i p, i < j → L[i]? = some p → ¬ x.first < p.first) → (∀ p, L[j]? = some p → x.first < p.first) → putAt L x = putI L j x
  | [], j, hj, _, _ => by
    obtain rfl : j = 0 := by simpa using hj
    rfl
  | p :: r, 0, _, _, h => by
    have := h p rfl
    show (if x.first < p.first then x :: p :: r else p :: putAt r x) = _
    rw [if_pos this]
    rfl
  | p :: r, j + 1, hj, hb, h => by
    have := hb 0 p (by omega) rfl
    show (if x.first < p.first then x :: p :: r else p :: putAt r x) = _
    rw [if_neg this, putAt_ix x r j (by simpa using hj) (fun i q hi hq => hb (i + 1) q (by omega) (by simpa using hq)) (fun q hq => h q (by simpa using hq))]
    rfl
theorem put_cases (L : List Plc) (x : Plc) : (ixFrom (fun p : Plc => decide (x.first < p.first)) 0 L = -1 ∧ putAt L x = putI L L.length x) ∨ ∃ j : Nat, j < L.length ∧ ixFrom (fun p : Plc => decide (x.first < p.first)) 0 L = (j : Int) ∧ putAt L x = putI L j x := by
  rcases ix_spec (fun p : Plc => decide (x.first < p.first)) L 0 with ⟨h1, h2⟩ | ⟨j, p, h1, h2, h3, h4⟩
  · refine .inl ⟨h1, putAt_ix x L _ (Nat.le_refl _) (fun i p _ hp => ?_) (fun p hp => ?_)⟩
    · have := h2 p (List.mem_of_getElem? hp)
      simpa using this
    · simp at hp
  · rw [Nat.zero_add] at h1
    refine .inr ⟨j, (List.getElem?_eq_some_iff.1 h2).1, h1, putAt_ix x L j (Nat.le_of_lt (List.getElem?_eq_some_iff.1 h2).1) (fun i q hi hq => ?_) (fun q hq => ?_)⟩
    · have := h4 i q hi hq
      simpa using this
    · rw [h2] at hq
      obtain rfl := Option.some.inj hq
      simpa using h3
theorem mem_putAt {x p : Plc} : ∀ {L : List Plc}, p ∈ putAt L x ↔ p = x ∨ p ∈ L
  | [] => by simp [putAt]
  | q :: r => by
    have h : putAt (q :: r) x = if x.first < q.first then x :: q :: r else q :: putAt r x := rfl
    rw [h]
    split
    · simp
    · rw [List.mem_cons, mem_putAt, List.mem_cons]
      constructor
      · rintro (h | h | h)
        · exact .inr (.inl h)
        · exact .inl h
        · exact .inr (.inr h)
      · rintro (h | h | h)
        · exact .inr (.inl h)
        · exact .inl h
        · exact .inr (.inr h)
theorem putAt_length (x : Plc) : ∀ L : List Plc, (putAt L x).length = L.length + 1
  | [] => rfl
  | q :: r => by
    have h : putAt (q :: r) x = if x.first < q.first then x :: q :: r else q :: putAt r x := rfl
    rw [h]
    split
    · rfl
    · rw [List.length_cons, putAt_length x r, List.length_cons]

/-- Room for so many sectors among others: from a wanted one on, if they are free there. -/
def roomOf (L : List Plc) (x : Int) (many : Int) : Option Int :=
  if ((runsFrom 0 L).any fun r => decide (r.1 ≤ x) && decide (x + many ≤ r.1 + r.2)) = true then some x else (fitOf many (runsFrom 0 L)).map (·.1)
/-- What is put in: what comes of all, or why not. -/
def instDo (L : List Plc) (M : Mod) : List Plc × Int :=
  if chkMod M ≠ 0 then ([], chkMod M) else if (L.any fun p => p.mod.name == M.name) = true then ([], 6) else if 8 ≤ L.length then ([], 2) else
  match fitOf (szM M) (runsFrom 0 L) with
  | none => ([], 8)
  | some r => (putAt L ⟨M, r.1⟩, 0)
def nameIx (L : List Plc) (name : ByteArray) : Int := ixFrom (fun p : Plc => p.mod.name == name) 0 L
def remAt (L : List Plc) (name : ByteArray) (n : Nat) : List Plc × Int := if (L.any fun p => asksM p.mod name) = true then ([], 4) else (L.eraseIdx n, 0)
def remDo (L : List Plc) (name : ByteArray) : List Plc × Int :=
  match nameIx L name with
  | .negSucc _ => ([], 5)
  | .ofNat n => remAt L name n
def upTo (R : List Plc) (M : Mod) (o : Option Int) : List Plc × Int :=
  match o with
  | none => ([], 8)
  | some f => (putAt R ⟨M, f⟩, 0)
def upAt (L : List Plc) (M : Mod) (n : Nat) : List Plc × Int :=
  match L[n]? with
  | none => ([], 5)
  | some p => upTo (L.eraseIdx n) M (roomOf (L.eraseIdx n) p.first (szM M))
def upDo (L : List Plc) (M : Mod) : List Plc × Int :=
  if chkMod M ≠ 0 then ([], chkMod M) else
  match nameIx L M.name with
  | .negSucc _ => ([], 5)
  | .ofNat n => upAt L M n
theorem remDo_none {L : List Plc} {name : ByteArray} (h : nameIx L name = -1) : remDo L name = ([], 5) := by
  unfold remDo
  rw [h]
  rfl
theorem remDo_at {L : List Plc} {name : ByteArray} {n : Nat} (h : nameIx L name = (n : Int)) : remDo L name = remAt L name n := by
  unfold remDo
  rw [h]
theorem upDo_bad {L : List Plc} {M : Mod} (h : chkMod M ≠ 0) : upDo L M = ([], chkMod M) := by
  unfold upDo
  rw [if_pos h]
theorem upDo_none {L : List Plc} {M : Mod} (h : chkMod M = 0) (hn : nameIx L M.name = -1) : upDo L M = ([], 5) := by
  unfold upDo
  rw [if_neg (by omega), hn]
  rfl
theorem upDo_at {L : List Plc} {M : Mod} {n : Nat} {p : Plc} (h : chkMod M = 0) (hn : nameIx L M.name = (n : Int)) (hp : L[n]? = some p) : upDo L M = upTo (L.eraseIdx n) M (roomOf (L.eraseIdx n) p.first (szM M)) := by
  have h1 : upDo L M = upAt L M n := by
    unfold upDo
    rw [if_neg (by omega), hn]
  rw [h1]
  unfold upAt
  rw [hp]

theorem runs_from : ∀ {l : List Plc} {e : Int} {r : Int × Int}, r ∈ runsFrom e l → okPl e l → e ≤ r.1
  | [], e, r, hr, _ => by
    have h0 : runsFrom e [] = if e = 16 then [] else [(e, 16 - e)] := rfl
    rw [h0] at hr
    split at hr
    · simp at hr
    · simp at hr
      subst hr
      exact Int.le_refl _
  | p :: l, e, r, hr, ho => by
    obtain ⟨h1, h2, h3, h4⟩ := ho
    have h0 : runsFrom e (p :: l) = (if e = p.first then [] else [(e, p.first - e)]) ++ runsFrom (p.first + szM p.mod) l := rfl
    rw [h0] at hr
    rcases List.mem_append.1 hr with hr | hr
    · split at hr
      · simp at hr
      · simp at hr
        subst hr
        exact Int.le_refl _
    · have := runs_from hr h4
      omega
/-- A sector is free, and so many from there on, just if there is nobody ahead of whose end they would lie. -/
theorem room_runs {x many : Int} (hm : 1 ≤ many) : ∀ {L : List Plc} {e : Int}, okPl e L → e ≤ x → (∀ p ∈ L, p.first + szM p.mod ≤ x ∨ x < p.first) →
    (((runsFrom e L).any fun r => decide (r.1 ≤ x) && decide (x + many ≤ r.1 + r.2)) = true ↔ (x + many ≤ 16 ∧ ∀ p ∈ L, ¬ (x < p.first ∧ p.first < x + many)))
  | [], e, h, he, _ => by
    have h : e ≤ 16 := h
    have hr : runsFrom e [] = if e = 16 then [] else [(e, 16 - e)] := rfl
    rw [hr]
    split
    · simp
      omega
    · simp
      omega
  | p :: l, e, h, he, hx => by
    obtain ⟨h1, h2, h3, h4⟩ := h
    have hr : runsFrom e (p :: l) = (if e = p.first then [] else [(e, p.first - e)]) ++ runsFrom (p.first + szM p.mod) l := rfl
    rw [hr, List.any_append, Bool.or_eq_true]
    have hlat : ∀ q ∈ l, p.first + szM p.mod ≤ q.first := fun q hq => (okPl_first h4 q hq).1
    rcases hx p (by simp) with g | g
    · have ih := room_runs (x := x) (many := many) hm h4 g (fun q hq => hx q (List.mem_cons_of_mem _ hq))
      rw [ih]
      have hno : (List.any (if e = p.first then ([] : List (Int × Int)) else [(e, p.first - e)]) fun r => decide (r.1 ≤ x) && decide (x + many ≤ r.1 + r.2)) = true ↔ False := by
        split
        · simp
        · simp
          omega
      rw [hno, false_or]
      constructor
      · rintro ⟨k1, k2⟩
        refine ⟨k1, fun q hq => ?_⟩
        rcases List.mem_cons.1 hq with rfl | hq
        · omega
        · exact k2 q hq
      · rintro ⟨k1, k2⟩
        exact ⟨k1, fun q hq => k2 q (List.mem_cons_of_mem _ hq)⟩
    · have hno : ((runsFrom (p.first + szM p.mod) l).any fun r => decide (r.1 ≤ x) && decide (x + many ≤ r.1 + r.2)) = true ↔ False := by
        rw [List.any_eq_true]
        constructor
        · rintro ⟨r, hr, hd⟩
          have := runs_from hr h4
          simp at hd
          omega
        · exact False.elim
      rw [hno, or_false, if_neg (by omega)]
      constructor
      · intro hd
        simp at hd
        refine ⟨by omega, fun q hq => ?_⟩
        rcases List.mem_cons.1 hq with rfl | hq
        · omega
        · have := hlat q hq
          omega
      · rintro ⟨k1, k2⟩
        have := k2 p (by simp)
        simp
        omega

end Go.Proofs.YtlpnfbpgnfappaaGreat

/- The contract of slices.Insert at placed modules: one more in a row of one's own. -/
namespace Go.Proofs.YtlpnfbpgnfappaaGreat
open Go.RowKit Go.PlainAid Go.Lib

set_option maxRecDepth 100000

theorem pvC_cells {W : World} {B : Nat} {t : TypeId} {y : PV} (h : CellsAt W B t (pvC y).toArray) : ∀ j u, (pvC y)[j]? = some u → W.cell? ((⟨B, 0, none⟩ : Addr).add j) = some u := by
  intro j u hu
  rw [add_none, Nat.zero_add, h.cell j]
  simpa using hu

set_option maxHeartbeats 4000000 in
theorem insEnd_any (v : Value) (n base vb : Nat) (l : List PV) (y : PV) (w : World) (hown : w.ownsRow base 57 8 v n (l.flatMap pvC)) (hn : l.length = n) (hy : ∀ u ∈ pvC y, u.oneCell' = true) (h255 : n ≤ 254) (hvb : CellsAt w vb 57 (pvC y).toArray) (hb : base ≤ w.heap.size) :
    Calls Tryz.prog 96 #[v, .int .i64 n, .slice (some ⟨vb, 0, none⟩) 1 1] w fun e w' => ∃ v', e = .returned v' ∧ w'.ownsRow base 57 8 v' (n + 1) ((l ++ [y]).flatMap pvC) ∧ w.grownBy w' v.ownBlock := by
  obtain ⟨i0, hi0, hz0, hz1, hz2⟩ := infoPlc_parts
  have HN : Hid (∀ j u, (pvC y)[j]? = some u → w.cell? ((⟨vb, 0, none⟩ : Addr).add j) = some u) := pvC_cells hvb
  have HO : Hid (w.ownsRow base 57 8 v n (l.flatMap pvC)) := hown
  have HE : Hid ((l ++ [y]).flatMap pvC = l.flatMap pvC ++ pvC y) := by show _ = _; simp
  have HY : Hid (∀ u ∈ pvC y, u.oneCell' = true) := hy
  obtain ⟨va, vc, rfl⟩ := own_form hown
  have hnc : n ≤ vc := by
    rcases hown.2 with ⟨h1, h2⟩ | ⟨g, cap, cur, h1, _, _, h2, _⟩
    · omega
    · injection h1 with _ _ h1; omega
  have hva : va = none → n = 0 ∧ vc = 0 := by
    rintro rfl
    rcases hown.2 with ⟨h1, h2⟩ | ⟨g, cap, cur, h1, _⟩
    · injection h1 with _ _ h1
      exact ⟨h2, h1⟩
    · simp at h1
  clear hown hy hvb
  go_enter Tryz.func96, Tryz.ntmps96
  rcases va with _ | ⟨ab, ao, asp⟩
  · obtain ⟨rfl, rfl⟩ := hva rfl
    go_wp2_with (at_builtin; refine wpList_append_own _ rfl _ _ 25 rfl base 57 i0 _ 8 128 Tryz.underlying25 hi0 hz0 hz1 hz2 rfl (by decide) _ _ _ rfl HO.out ⟨vb, 0, none⟩ 1 1 (pvC y) rfl rfl HN.out HY.out (by unfold maxLen; omega) (by omega) hb ?_)
    intro v' w1 hown hgrow hnil
    go_wp2
    go_ret
    exact ⟨v', rfl, by rw [HE.out]; exact hown, hgrow⟩
  · by_cases hcv : vc = n
    all_goals
      go_wp2_with (at_builtin; refine wpList_append_own _ rfl _ _ 25 rfl base 57 i0 _ 8 128 Tryz.underlying25 hi0 hz0 hz1 hz2 rfl (by decide) _ _ _ rfl HO.out ⟨vb, 0, none⟩ 1 1 (pvC y) rfl rfl HN.out HY.out (by unfold maxLen; omega) (by omega) hb ?_)
      intro v' w1 hown hgrow hnil
      go_wp2
      go_ret
      exact ⟨v', rfl, by rw [HE.out]; exact hown, hgrow⟩

theorem flat8 (l : List PV) : (l.flatMap pvC).length = l.length * 8 := flat_len (C := pvC) (sz := 8) (fun _ => rfl) l
theorem placed_size : (Tryz.prog.info? 57).map (·.size) = some 8 := by
  obtain ⟨i0, hi0, _, hz1, _⟩ := infoPlc_parts
  rw [hi0]; simp [hz1]
theorem sizeOf_placed (w : World) : (Go.sizeOf 57).run Tryz.prog w = .ok 8 w := by
  obtain ⟨i0, hi0, _, hz1, _⟩ := infoPlc_parts
  simp [Go.sizeOf, typeInfo, hi0, hz1]

set_option maxHeartbeats 4000000 in
theorem insShift_any (g cap n i base vb : Nat) (l : List PV) (y : PV) (w : World) (hown : w.ownsRow base 57 8 (.slice (some ⟨g, 0, none⟩) n cap) n (l.flatMap pvC)) (hn : l.length = n) (hi : i < n) (hroom : n + 1 ≤ cap) (hl : ∀ u ∈ l.flatMap pvC, u.oneCell' = true) (hy : ∀ u ∈ pvC y, u.oneCell' = true) (h255 : n ≤ 254) (hvb : CellsAt w vb 57 (pvC y).toArray) (hgv : vb ≠ g) :
    Calls Tryz.prog 96 #[.slice (some ⟨g, 0, none⟩) n cap, .int .i64 i, .slice (some ⟨vb, 0, none⟩) 1 1] w fun e w' => e = .returned (.slice (some ⟨g, 0, none⟩) (n + 1) cap) ∧ w'.ownsRow base 57 8 (.slice (some ⟨g, 0, none⟩) (n + 1) cap) (n + 1) ((putI l i y).flatMap pvC) ∧ w.grownBy w' (some g) := by
  obtain ⟨i0, hi0, hz0, hz1, hz2⟩ := infoPlc_parts
  have hcap := own_capB hown
  have hyl : (pvC y).length = 8 := rfl
  have hov : ∀ lb cb, (callFunc 151 #[.slice (some ⟨vb, 0, none⟩) 1 1, .slice (some ⟨g, (i + 1) * 8, none⟩) lb cb]).run Tryz.prog w = .ok (.value (.bool false)) w := fun lb cb => by
    rw [run_callFunc_extern Tryz.func151 (by kernel_rfl) (by kernel_rfl) (by kernel_rfl) (e := Extern.SlicesOverlaps.overlaps #[25, 25] #[4]) (by kernel_rfl),
      Lib.run_overlaps_apart w 25 4 57 Tryz.underlying25 8 sizeOf_placed ⟨vb, 0, none⟩ ⟨g, (i + 1) * 8, none⟩ 1 1 lb cb hgv _ _ _ _ (cells_shape hvb) (own_shape hown) (by omega) (hvb.frozen 0) (hvb.frozen _)]
    rfl
  obtain ⟨cs, hcs⟩ : ∃ cs, (l.drop i).flatMap pvC = cs := ⟨_, rfl⟩
  have hdrop : (l.flatMap pvC).drop (i * 8) = cs := by rw [flat_drop (C := pvC) (sz := 8) (fun _ => rfl), hcs]
  have hcl : cs.length = (n - i) * 8 := by rw [← hcs, flat8, List.length_drop, hn]
  obtain ⟨sp, hsp, hw1⟩ := own_widen hown.drew hroom
  have hL1 := own_lay cs _ ((i + 1) * 8) _ hw1
  have hfl : (l.flatMap pvC).length = n * 8 := by rw [flat8, hn]
  obtain ⟨W1, hW1⟩ : ∃ W1, W1 = w.drew.setCells g ((i + 1) * 8) cs := ⟨_, rfl⟩
  rw [← hW1] at hL1
  have hL2 : ∀ W, W1.grownBy W none → W.heap = W1.heap → _ := fun W h1 h2 => own_lay (pvC y) _ (i * 8) W (hL1.1.kept h1 (by cases Value.ownBlock (Value.slice (some ⟨g, 0, none⟩) (n + 1) cap) <;> simp))
  have hm1 : cs.length = Nat.min (n + 1 - i) (n - i) * 8 := by
    have e1 : Nat.min (n + 1 - i) (n - i) = n - i := Nat.min_eq_right (by omega)
    rw [hcl, e1]
  have hm2 : (pvC y).length = Nat.min 1 (n + 1 - i) * 8 := by
    have e1 : Nat.min 1 (n + 1 - i) = 1 := Nat.min_eq_left (by omega)
    rw [hyl, e1]
  have hcp1 : ∀ ty dc sc, (Builtin.copy_ #[25, 25] ty #[.slice (some ⟨g, (i + 1) * 8, none⟩) (n - i) dc, .slice (some ⟨g, i * 8, none⟩) (n + 1 - i) sc]).run Tryz.prog w.drew = .ok (goInt (Nat.min (n + 1 - i) (n - i))) W1 := fun ty dc sc => by
    rw [hW1]
    exact run_copy_rows w.drew _ _ ty 57 i0 8 g ((i + 1) * 8) _ dc ⟨g, i * 8, none⟩ _ sc cs Tryz.underlying25 hi0 hz1 hm1
      (fun j u hj => by
        rw [add_none]
        refine own_cellAt hown ?_
        rw [← hdrop, List.getElem?_drop] at hj
        exact hj)
      (fun j hj => (own_spot hown _ (by omega)).1) (fun j hj => (own_spot hown _ (by omega)).2) (fun u hu => hl u (by rw [← hdrop] at hu; exact List.mem_of_mem_drop hu))
  have hvb1 : ∀ W : World, W.heap = W1.heap → CellsAt W vb 57 (pvC y).toArray := fun W h => by
    have h1 : w.drew.grownBy W1 (some g) := hL1.2
    have := (show CellsAt w.drew vb _ _ from hvb).kept h1 (by intro e; exact hgv (Option.some.inj e))
    unfold CellsAt at this ⊢
    rw [h]; exact this
  have hcp2 : ∀ W : World, W.heap = W1.heap → W1.grownBy W none → ∀ ty dc, (Builtin.copy_ #[25, 25] ty #[.slice (some ⟨g, i * 8, none⟩) (n + 1 - i) dc, .slice (some ⟨vb, 0, none⟩) 1 1]).run Tryz.prog W = .ok (goInt (Nat.min 1 (n + 1 - i))) (W.setCells g (i * 8) (pvC y)) := fun W h hg ty dc =>
    run_copy_rows W _ _ ty 57 i0 8 g (i * 8) _ dc ⟨vb, 0, none⟩ 1 1 (pvC y) Tryz.underlying25 hi0 hz1 hm2
      (pvC_cells (hvb1 W h)) (fun j hj => (own_spot (hL1.1.kept hg (by cases Value.ownBlock (Value.slice (some ⟨g, 0, none⟩) (n + 1) cap) <;> simp)) _ (by omega)).1) (fun j hj => (own_spot (hL1.1.kept hg (by cases Value.ownBlock (Value.slice (some ⟨g, 0, none⟩) (n + 1) cap) <;> simp)) _ (by omega)).2) hy
  have hxs : layL (layL (l.flatMap pvC ++ sp) ((i + 1) * 8) cs) (i * 8) (pvC y) = (putI l i y).flatMap pvC := by
    rw [layL_eq cs _ _ (by rw [List.length_append, hfl, hsp, hcl]; omega)]
    rw [List.drop_of_length_le (by rw [List.length_append, hfl, hsp, hcl]; omega), List.append_nil]
    have ht : (List.take ((i + 1) * 8) (l.flatMap pvC ++ sp)).length = (i + 1) * 8 := by rw [List.length_take, List.length_append, hfl, hsp]; omega
    rw [layL_eq (pvC y) _ _ (by rw [List.length_append, ht, hcl, hyl]; omega)]
    rw [List.drop_append, hyl, ht, List.drop_of_length_le (by rw [ht]; omega), List.nil_append, show i * 8 + 8 - (i + 1) * 8 = 0 by omega, List.drop_zero]
    rw [List.take_append_of_le_length (by rw [ht]; omega), List.take_take, Nat.min_eq_left (by omega), List.take_append_of_le_length (by rw [hfl]; omega), flat_take (C := pvC) (sz := 8) (fun _ => rfl)]
    unfold putI
    rw [List.flatMap_append, List.flatMap_cons, hcs, List.append_assoc]
  have HR : Hid (∀ W : World, W.heap = W1.heap → W1.grownBy W none → (W.setCells g (i * 8) (pvC y)).ownsRow base 57 8 (.slice (some ⟨g, 0, none⟩) (n + 1) cap) (n + 1) ((putI l i y).flatMap pvC) ∧ w.grownBy (W.setCells g (i * 8) (pvC y)) (some g)) := fun W h1 h2 => by
    obtain ⟨k1, k2⟩ := hL2 W h2 h1
    rw [hxs] at k1
    exact ⟨k1, (((grown_drew w _).trans hL1.2).trans (grown_up h2)).trans k2⟩
  have hne1 : ¬ ((1 : Int) = 0) := by omega
  have hz2' : ¬ ((i : Int) = (n : Int)) := by omega
  have hin : i ≤ n := by omega
  have hb1 : (0 : Int) ≤ (i : Int) + 1 := by omega
  have hb3 : (i : Int) ≤ (n : Int) + 1 := by omega
  have hcn : ¬ (cap = i + 1) := by omega
  have hcn' : ¬ (cap = i) := by omega
  have hwr1 : IntKind.i64.wrap ((i : Int) + 1) = (i : Int) + 1 := by rw [IntKind.wrap_i64]; omega
  have hwr2 : IntKind.i64.wrap ((n : Int) + 1) = (n : Int) + 1 := by rw [IntKind.wrap_i64]; omega
  have mixed : Tryz.prog.follows Departure.mixedOrders = true := by kernel_rfl
  have HC1 : Hid _ := hcp1
  have HC2 : Hid _ := hcp2
  have HOV : Hid _ := hov
  clear hm1 hm2 hcp1 hcp2 hL2 hL1 hw1 hxs hvb1 hdrop hcs hown hl hy hvb hsp hfl hyl hcl hov hW1
  go_enter Tryz.func96, Tryz.ntmps96
  go_wp2_with (simp only [HOV.out])
  go_region_law_o (refine step_copy_run2 rfl _ _ 25 25 rfl (.slice (some ⟨g, (i + 1) * 8, none⟩) (n - i) (cap - (i + 1))) (.slice (some ⟨g, i * 8, none⟩) (n + 1 - i) (cap - i)) (by simp [Act.eval, Act.put]) (by simp [Act.eval, Act.put]) (HC1.out 3 (cap - (i + 1)) (cap - i)) ?_)
  go_wp2_with fail
  rw [HC2.out W1 rfl (grown_refl W1 none)]
  simp only [Result.andThen]
  rw [Oper.upon_value]
  go_wp2
  go_ret
  exact ⟨rfl, (HR.out W1 rfl (grown_refl _ _)).1, (HR.out W1 rfl (grown_refl _ _)).2⟩

set_option maxHeartbeats 4000000 in
theorem insGrow_any (g n i base vb : Nat) (l : List PV) (y : PV) (w : World) (hown : w.ownsRow base 57 8 (.slice (some ⟨g, 0, none⟩) n n) n (l.flatMap pvC)) (hn : l.length = n) (hi : i < n) (hl : ∀ u ∈ l.flatMap pvC, u.oneCell' = true) (hy : ∀ u ∈ pvC y, u.oneCell' = true) (h255 : n ≤ 254) (hvb : CellsAt w vb 57 (pvC y).toArray) (hb : base ≤ w.heap.size) :
    Calls Tryz.prog 96 #[.slice (some ⟨g, 0, none⟩) n n, .int .i64 i, .slice (some ⟨vb, 0, none⟩) 1 1] w fun e w' => ∃ v', e = .returned v' ∧ w'.ownsRow base 57 8 v' (n + 1) ((putI l i y).flatMap pvC) ∧ w.grownBy w' (some w.heap.size) := by
  obtain ⟨i0, hi0, hz0, hz1, hz2⟩ := infoPlc_parts
  have hyl : (pvC y).length = 8 := rfl
  have hfl : (l.flatMap pvC).length = n * 8 := by rw [flat8, hn]
  obtain ⟨cs, hcs⟩ : ∃ cs, (l.drop i).flatMap pvC = cs := ⟨_, rfl⟩
  have hdrop : (l.flatMap pvC).drop (i * 8) = cs := by rw [flat_drop (C := pvC) (sz := 8) (fun _ => rfl), hcs]
  have hcl : cs.length = (n - i) * 8 := by rw [← hcs, flat8, List.length_drop, hn]
  obtain ⟨os, hos⟩ : ∃ os, (l.take i).flatMap pvC = os := ⟨_, rfl⟩
  have htake : (l.flatMap pvC).take (i * 8) = os := by rw [flat_take (C := pvC) (sz := 8) (fun _ => rfl), hos]
  have hol : os.length = i * 8 := by rw [← hos, flat8, List.length_take, hn, Nat.min_eq_left (by omega)]
  have hgw : g < w.heap.size := (hown.lt g rfl).2
  have hvw : vb < w.heap.size := hvb.lt
  obtain ⟨z, hz⟩ : ∃ z : Value, z = .agg #[.string ⟨#[]⟩, .int .i64 0, .int .i64 0, .string ⟨#[]⟩, .slice none 0 0, .slice none 0 0, .slice none 0 0, .int .i64 0] := ⟨_, rfl⟩
  have hzc : z.cells.size = 8 := by rw [hz]; rfl
  rw [← hz] at hz0
  have hold : (Builtin.firstCells i0.size i (.slice (some ⟨g, 0, none⟩) i n)).run Tryz.prog w.drew = .ok os.toArray w.drew := by
    rw [hz1]
    exact run_firstCells_some w.drew 8 i ⟨g, 0, none⟩ i n os hol (fun j u hj => by
      rw [add_none, Nat.zero_add]
      refine own_cellAt hown ?_
      rw [← htake, List.getElem?_take] at hj
      split at hj
      · exact hj
      · cases hj)
  obtain ⟨G, hG⟩ : ∃ G, G = grownCap w (n + 1) n 57 := ⟨_, rfl⟩
  obtain ⟨ROW, hROW⟩ : ∃ ROW : Array Value, ROW = os.toArray ++ Builtin.zeroCells z.cells (n + 1 - i) ++ Builtin.zeroCells z.cells (G - (n + 1)) := ⟨_, rfl⟩
  obtain ⟨W1, hW1⟩ : ∃ W1, W1 = w.drew.alloc (.cells ROW 57) := ⟨_, rfl⟩
  have hrz : ∀ ty, (Builtin.append_ #[25, 3] ty #[.slice (some ⟨g, 0, none⟩) i n, .int .i64 ((n : Int) + 1 - (i : Int))]).run Tryz.prog w = .ok (.slice (some ⟨w.heap.size, 0, none⟩) (n + 1) G) W1 := fun ty => by
    have h := Lib.run_append_grow_zeros w 25 3 ty 57 i0 z .i64 .i64 Tryz.underlying25 Tryz.underlying3 hi0 hz0 (some ⟨g, 0, none⟩) i n os hold (n + 1 - i) (by omega) (by omega) (by omega) (by omega) (by rw [hz2]; omega) (by
      rw [hz2]
      exact growslice_fits (by omega) (by omega))
    rw [show i + (n + 1 - i) = n + 1 by omega, ← hG, ← hROW, ← hW1] at h
    rw [show (n : Int) + 1 - (i : Int) = ((n + 1 - i : Nat) : Int) by omega]
    exact h
  have hGn : n + 1 ≤ G := by rw [hG]; exact grownCap_ge w _ _ _
  have hG63 : G ≤ maxLen := by rw [hG]; exact grownCap_le_maxLen w (n + 1) n 57 (by unfold maxLen; omega)
  have hzl : (Builtin.zeroCells z.cells (n + 1 - i)).toList.length = (n + 1 - i) * 8 := by rw [Array.length_toList, size_zeroCells, hzc]
  have ho1 : W1.ownsRow base 57 8 (.slice (some ⟨w.heap.size, 0, none⟩) (n + 1) G) (n + 1) (os ++ (Builtin.zeroCells z.cells (n + 1 - i)).toList) := by
    rw [hW1]
    refine ⟨by rw [List.length_append, hol, hzl]; omega, .inr ⟨w.heap.size, G, ROW, rfl, hb, heap_alloc_new w.drew _, hGn, hG63, ?_, ?_⟩⟩
    · rw [hROW]
      simp only [Array.size_append, List.size_toArray, size_zeroCells, hzc, hol]
      omega
    · rw [hROW]
      simp only [Array.toList_append]
      exact List.take_left' (by rw [List.length_append, hol, hzl]; omega)
  have hg1 : w.grownBy W1 (some w.heap.size) := by rw [hW1]; exact (grown_drew w _).trans (World.grownBy_alloc _ _ _)
  obtain ⟨zs, hzs⟩ : ∃ zs, (Builtin.zeroCells z.cells (n + 1 - i)).toList = zs := ⟨_, rfl⟩
  rw [hzs] at ho1 hzl
  have hm2 : (pvC y).length = Nat.min 1 (n + 1 - i) * 8 := by
    have e1 : Nat.min 1 (n + 1 - i) = 1 := Nat.min_eq_left (by omega)
    rw [hyl, e1]
  have hm1 : cs.length = Nat.min (n - i) (n - i) * 8 := by
    have e1 : Nat.min (n - i) (n - i) = n - i := Nat.min_self _
    rw [hcl, e1]
  -- the first copy
  have hcpA : ∀ W : World, W1.grownBy W none → W.heap = W1.heap → ∀ ty dc, (Builtin.copy_ #[25, 25] ty #[.slice (some ⟨w.heap.size, i * 8, none⟩) (n + 1 - i) dc, .slice (some ⟨vb, 0, none⟩) 1 1]).run Tryz.prog W = .ok (goInt (Nat.min 1 (n + 1 - i))) (W.setCells w.heap.size (i * 8) (pvC y)) := fun W hg h ty dc => by
    have ho : W.ownsRow base 57 8 (.slice (some ⟨w.heap.size, 0, none⟩) (n + 1) G) (n + 1) (os ++ zs) := ho1.kept hg (by cases Value.ownBlock (Value.slice (some ⟨w.heap.size, 0, none⟩) (n + 1) G) <;> simp)
    have hv : CellsAt W vb 57 (pvC y).toArray := (hvb.kept hg1 (by intro e; have := Option.some.inj e; omega)).kept hg (by simp)
    exact run_copy_rows W _ _ ty 57 i0 8 w.heap.size (i * 8) _ dc ⟨vb, 0, none⟩ 1 1 (pvC y) Tryz.underlying25 hi0 hz1 hm2 (pvC_cells hv) (fun j hj => (own_spot ho _ (by omega)).1) (fun j hj => (own_spot ho _ (by omega)).2) hy
  have hA : ∀ W : World, W1.grownBy W none → (W.setCells w.heap.size (i * 8) (pvC y)).ownsRow base 57 8 (.slice (some ⟨w.heap.size, 0, none⟩) (n + 1) G) (n + 1) (layL (os ++ zs) (i * 8) (pvC y)) ∧ w.grownBy (W.setCells w.heap.size (i * 8) (pvC y)) (some w.heap.size) := fun W hg => by
    have ho : W.ownsRow base 57 8 (.slice (some ⟨w.heap.size, 0, none⟩) (n + 1) G) (n + 1) (os ++ zs) := ho1.kept hg (by cases Value.ownBlock (Value.slice (some ⟨w.heap.size, 0, none⟩) (n + 1) G) <;> simp)
    obtain ⟨k1, k2⟩ := own_lay (pvC y) _ (i * 8) W ho
    exact ⟨k1, (hg1.trans (grown_up hg)).trans k2⟩
  have hcpB : ∀ W : World, w.grownBy W (some w.heap.size) → W.ownsRow base 57 8 (.slice (some ⟨w.heap.size, 0, none⟩) (n + 1) G) (n + 1) (layL (os ++ zs) (i * 8) (pvC y)) → ∀ ty dc sc, (Builtin.copy_ #[25, 25] ty #[.slice (some ⟨w.heap.size, (i + 1) * 8, none⟩) (n - i) dc, .slice (some ⟨g, i * 8, none⟩) (n - i) sc]).run Tryz.prog W = .ok (goInt (Nat.min (n - i) (n - i))) (W.setCells w.heap.size ((i + 1) * 8) cs) := fun W hg ho ty dc sc => by
    have hs : W.ownsRow base 57 8 (.slice (some ⟨g, 0, none⟩) n n) n (l.flatMap pvC) := hown.kept hg (.inr (by simp [Value.ownBlock]; omega))
    exact run_copy_rows W _ _ ty 57 i0 8 w.heap.size ((i + 1) * 8) _ dc ⟨g, i * 8, none⟩ _ sc cs Tryz.underlying25 hi0 hz1 hm1
      (fun j u hj => by
        rw [add_none]
        refine own_cellAt hs ?_
        rw [← hdrop, List.getElem?_drop] at hj
        exact hj)
      (fun j hj => (own_spot ho _ (by omega)).1) (fun j hj => (own_spot ho _ (by omega)).2) (fun u hu => hl u (by rw [← hdrop] at hu; exact List.mem_of_mem_drop hu))
  have hxs : layL (layL (os ++ zs) (i * 8) (pvC y)) ((i + 1) * 8) cs = (putI l i y).flatMap pvC := by
    rw [layL_eq (pvC y) _ _ (by rw [List.length_append, hol, hzl, hyl]; omega)]
    rw [List.take_left' hol]
    have hlen : (os ++ pvC y).length = (i + 1) * 8 := by rw [List.length_append, hol, hyl]; omega
    rw [layL_eq cs _ _ (by rw [List.length_append, hlen, List.length_drop, List.length_append, hol, hzl, hcl, hyl]; omega)]
    rw [List.take_left' hlen, List.drop_of_length_le (by rw [List.length_append, hlen, List.length_drop, List.length_append, hol, hzl, hcl, hyl]; omega), List.append_nil]
    unfold putI
    rw [List.flatMap_append, List.flatMap_cons, hcs, hos, List.append_assoc]
  have HB : Hid (∀ W : World, w.grownBy W (some w.heap.size) → W.ownsRow base 57 8 (.slice (some ⟨w.heap.size, 0, none⟩) (n + 1) G) (n + 1) (layL (os ++ zs) (i * 8) (pvC y)) → (W.setCells w.heap.size ((i + 1) * 8) cs).ownsRow base 57 8 (.slice (some ⟨w.heap.size, 0, none⟩) (n + 1) G) (n + 1) ((putI l i y).flatMap pvC) ∧ w.grownBy (W.setCells w.heap.size ((i + 1) * 8) cs) (some w.heap.size)) := fun W h1 h2 => by
    obtain ⟨k1, k2⟩ := own_lay cs _ ((i + 1) * 8) W h2
    rw [hxs] at k1
    exact ⟨k1, h1.trans k2⟩
  have HA : Hid _ := hA
  have HCA : Hid _ := hcpA
  have HCB : Hid _ := hcpB
  have HRZ : Hid _ := hrz
  have hne1 : ¬ ((1 : Int) = 0) := by omega
  have hz2' : ¬ ((i : Int) = (n : Int)) := by omega
  have hin : i ≤ n := by omega
  have hb1 : (0 : Int) ≤ (i : Int) + 1 := by omega
  have hb3 : (i : Int) ≤ (n : Int) + 1 := by omega
  have hb4 : (i : Int) ≤ (n : Int) := by omega
  have hgt : (n : Int) < (n : Int) + 1 := by omega
  have hcn' : ¬ (n = i) := by omega
  have hGi : ¬ (G = i) := by omega
  have hGi1 : ¬ (G = i + 1) := by omega
  have hwr1 : IntKind.i64.wrap ((i : Int) + 1) = (i : Int) + 1 := by rw [IntKind.wrap_i64]; omega
  have hwr2 : IntKind.i64.wrap ((n : Int) + 1) = (n : Int) + 1 := by rw [IntKind.wrap_i64]; omega
  have hwr3 : IntKind.i64.wrap ((n : Int) + 1 - (i : Int)) = (n : Int) + 1 - (i : Int) := by rw [IntKind.wrap_i64]; omega
  have htn : ((i : Int) + 1).toNat = i + 1 := by omega
  have mixed : Tryz.prog.follows Departure.mixedOrders = true := by kernel_rfl
  clear hm1 hm2 hcpA hcpB hA hrz hxs hdrop htake hcs hos hown hl hy hvb hfl hyl hcl hol hW1 hROW hG ho1 hg1 hzs hzl hold hz hzc hz0
  go_enter Tryz.func96, Tryz.ntmps96
  go_wp2_with (at_builtin; refine Lib.wpList_append_run _ rfl _ _ _ _ rfl _ _ rfl rfl _ _ (HRZ.out _) ?_)
  rw [HCA.out W1 (grown_refl W1 none) rfl]
  simp only [Result.andThen]
  rw [Oper.upon_value]
  obtain ⟨hA1, hA2⟩ := HA.out W1 (grown_refl W1 none)
  have HO2 : Hid _ := hA1
  have HG2 : Hid _ := hA2
  clear hA1 hA2
  generalize W1.setCells w.heap.size (i * 8) (pvC y) = W2 at *
  go_wp2_with fail
  go_region_law_o (refine step_copy_run2 rfl _ _ 25 25 rfl (.slice (some ⟨w.heap.size, (i + 1) * 8, none⟩) (n - i) (G - (i + 1))) (.slice (some ⟨g, i * 8, none⟩) (n - i) (n - i)) (by simp [Act.eval, Act.put]) (by simp [Act.eval, Act.put]) (HCB.out W2.drew (HG2.out.trans (grown_drew W2 _)) HO2.out 3 (G - (i + 1)) (n - i)) ?_)
  go_wp2
  go_ret
  obtain ⟨k1, k2⟩ := HB.out W2.drew (HG2.out.trans (grown_drew W2 _)) HO2.out
  exact ⟨_, rfl, k1, k2⟩

theorem grown_new {W W' : World} {b : Option Nat} (h : W.grownBy W' (some W.heap.size)) : W.grownBy W' b := ⟨h.os, h.tape, h.output, h.size, fun k hk _ => h.block k hk (by intro e; have := Option.some.inj e; omega)⟩
theorem insPlc_any (v : Value) (n i base vb : Nat) (l : List PV) (y : PV) (w : World) (hown : w.ownsRow base 57 8 v n (l.flatMap pvC)) (hn : l.length = n) (hi : i ≤ n) (hl : ∀ u ∈ l.flatMap pvC, u.oneCell' = true) (hy : ∀ u ∈ pvC y, u.oneCell' = true) (h255 : n ≤ 254) (hvb : CellsAt w vb 57 (pvC y).toArray) (hgv : v.ownBlock ≠ some vb) (hb : base ≤ w.heap.size) :
    Calls Tryz.prog 96 #[v, .int .i64 i, .slice (some ⟨vb, 0, none⟩) 1 1] w fun e w' => ∃ v', e = .returned v' ∧ w'.ownsRow base 57 8 v' (n + 1) ((putI l i y).flatMap pvC) ∧ w.grownBy w' v.ownBlock := by
  by_cases hin : i = n
  · subst hin
    refine (insEnd_any v i base vb l y w hown hn hy h255 hvb hb).mono ?_
    rintro e w' ⟨v', rfl, h1, h2⟩
    refine ⟨v', rfl, ?_, h2⟩
    have : putI l i y = l ++ [y] := by
      unfold putI
      rw [List.take_of_length_le (by omega), List.drop_of_length_le (by omega)]
    rw [this]
    exact h1
  · obtain ⟨g, cap, cur, rfl, -⟩ : ∃ g cap cur, v = .slice (some ⟨g, 0, none⟩) n cap ∧ w.heap[g]? = some (.cells cur 57 (0, 0)) := by
      rcases hown.2 with ⟨_, h0⟩ | ⟨g, cap, cur, h1, _, h2, _⟩
      · omega
      · exact ⟨g, cap, cur, h1, h2⟩
    have hcap := own_capB hown
    by_cases hroom : n + 1 ≤ cap
    · refine (insShift_any g cap n i base vb l y w hown hn (by omega) hroom hl hy h255 hvb (by intro e; subst e; exact hgv rfl)).mono ?_
      rintro e w' ⟨rfl, h1, h2⟩
      exact ⟨_, rfl, h1, h2⟩
    · obtain rfl : cap = n := by omega
      refine (insGrow_any g cap i base vb l y w hown hn (by omega) hl hy h255 hvb hb).mono ?_
      rintro e w' ⟨v', rfl, h1, h2⟩
      exact ⟨v', rfl, h1, grown_new h2⟩

end Go.Proofs.YtlpnfbpgnfappaaGreat

/- The contracts of copies.Placed and registry.Find. -/
namespace Go.Proofs.YtlpnfbpgnfappaaGreat
open Go.RowKit Go.PlainAid Go.Lib

set_option maxRecDepth 100000

theorem row_less2 {W : World} {base base' : Nat} {e : TypeId} {size : Nat} {v : Value} {n : Nat} {xs : List Value} (h : W.ownsRow base e size v n xs) (hb : base' ≤ base) : W.ownsRow base' e size v n xs :=
  ⟨h.1, h.2.imp id (fun ⟨g, cap, cur, h1, h2, h3⟩ => ⟨g, cap, cur, h1, Nat.le_trans hb h2, h3⟩)⟩

/-- A placed module whose rows are blocks of their own, none below base. -/
def OwnsPlc (base : Nat) (W : World) (y : PV) : Prop :=
  W.ownsRow base 129 2 y.ve y.mod.exps.length (y.mod.exps.flatMap expC) ∧ W.ownsRow base 106 4 y.vi y.mod.imps.length (y.mod.imps.flatMap impC) ∧ W.ownsRow base 113 4 y.vp y.mod.pats.length (y.mod.pats.flatMap patC)
theorem own_kept {W W' : World} {base : Nat} {e : TypeId} {size : Nat} {v : Value} {n : Nat} {xs : List Value} (h : W.ownsRow base e size v n xs) {row : Option Nat} (hg : W.grownBy W' row) (hr : ∀ k, row = some k → k < base) : W'.ownsRow base e size v n xs :=
  h.kept hg (by
    rcases row with _ | k
    · cases hv : v.ownBlock with
      | none => exact .inl rfl
      | some j => exact .inr (by simp)
    · refine .inr ?_
      intro e
      have := own_block h k e
      have := hr k rfl
      omega)
theorem OwnsPlc.grown {base : Nat} {W W' : World} {y : PV} (h : OwnsPlc base W y) {row : Option Nat} (hg : W.grownBy W' row) (hr : ∀ k, row = some k → k < base) : OwnsPlc base W' y := ⟨own_kept h.1 hg hr, own_kept h.2.1 hg hr, own_kept h.2.2 hg hr⟩
theorem OwnsPlc.below {base : Nat} {W W' : World} {y : PV} (h : OwnsPlc base W y) (hb : Below W.heap.size W W') : OwnsPlc base W' y := ⟨own_below h.1 hb, own_below h.2.1 hb, own_below h.2.2 hb⟩
theorem OwnsPlc.plcAt {base : Nat} {W : World} {y : PV} (h : OwnsPlc base W y) (l1 : y.mod.exps.length ≤ 255) (l2 : y.mod.imps.length ≤ 255) (l3 : y.mod.pats.length ≤ 255) : PlcAt W.heap.size W y :=
  ⟨own_rows (C := expC) (cells := Exp.cell) (sz := 2) (fun _ => rfl) expC_at h.1 (by omega), own_rows (C := impC) (cells := Imp.cell) (sz := 4) (fun _ => rfl) impC_at h.2.1 (by omega), own_rows (C := patC) (cells := Pat.cell) (sz := 4) (fun _ => rfl) patC_at h.2.2 (by omega)⟩

theorem sets8 {W : World} {B : Nat} {t : TypeId} {a0 a1 a2 a3 a4 a5 a6 a7 : Value} (h : CellsAt W B t #[a0, a1, a2, a3, a4, a5, a6, a7]) (v0 v1 v2 v3 v4 v5 v6 v7 : Value) :
    CellsAt ((((((((W.setCell ⟨B, 0, none⟩ v0).setCell ⟨B, 1, none⟩ v1).setCell ⟨B, 2, none⟩ v2).setCell ⟨B, 3, none⟩ v3).setCell ⟨B, 4, none⟩ v4).setCell ⟨B, 5, none⟩ v5).setCell ⟨B, 6, none⟩ v6).setCell ⟨B, 7, none⟩ v7) B t #[v0, v1, v2, v3, v4, v5, v6, v7] := by
  have h7 := CellsAt.set 7 v7 (CellsAt.set 6 v6 (CellsAt.set 5 v5 (CellsAt.set 4 v4 (CellsAt.set 3 v3 (CellsAt.set 2 v2 (CellsAt.set 1 v1 (CellsAt.set 0 v0 h)))))))
  simp only [List.setIfInBounds_toArray, List.set_cons_zero, List.set_cons_succ] at h7
  exact h7
theorem sets8_grown (W : World) (B : Nat) (v0 v1 v2 v3 v4 v5 v6 v7 : Value) :
    W.grownBy ((((((((W.setCell ⟨B, 0, none⟩ v0).setCell ⟨B, 1, none⟩ v1).setCell ⟨B, 2, none⟩ v2).setCell ⟨B, 3, none⟩ v3).setCell ⟨B, 4, none⟩ v4).setCell ⟨B, 5, none⟩ v5).setCell ⟨B, 6, none⟩ v6).setCell ⟨B, 7, none⟩ v7) (some B) :=
  ((((((((grown_set W B 0 v0).trans (grown_set _ B 1 v1)).trans (grown_set _ B 2 v2)).trans (grown_set _ B 3 v3)).trans (grown_set _ B 4 v4)).trans (grown_set _ B 5 v5)).trans (grown_set _ B 6 v6)).trans (grown_set _ B 7 v7))

set_option maxHeartbeats 4000000 in
theorem copyPlc_any (x : PV) (w : World) (hx : PlcAt w.heap.size w x) (l1 : x.mod.exps.length ≤ 255) (l2 : x.mod.imps.length ≤ 255) (l3 : x.mod.pats.length ≤ 255) :
    Calls Tryz.prog 81 #[x.val] w fun e w' => (∃ y : PV, e = .returned y.val ∧ y.plc = x.plc ∧ OwnsPlc w.heap.size w' y) ∧ Below w.heap.size w w' := by
  obtain ⟨hE, hI, hP⟩ := hx
  have HE : Hid (∀ W, Below w.heap.size w W → Calls Tryz.prog 125 #[x.ve] W fun e w' => (∃ r, e = .returned r ∧ w'.ownsRow W.heap.size 129 2 r x.mod.exps.length (x.mod.exps.flatMap expC)) ∧ Below W.heap.size W w') := fun W hb => cloneExp_any _ _ W ((hE.below hb).more hb.size) l1
  have HI : Hid (∀ W, Below w.heap.size w W → Calls Tryz.prog 126 #[x.vi] W fun e w' => (∃ r, e = .returned r ∧ w'.ownsRow W.heap.size 106 4 r x.mod.imps.length (x.mod.imps.flatMap impC)) ∧ Below W.heap.size W w') := fun W hb => cloneImp_any _ _ W ((hI.below hb).more hb.size) l2
  have HP : Hid (∀ W, Below w.heap.size w W → Calls Tryz.prog 127 #[x.vp] W fun e w' => (∃ r, e = .returned r ∧ w'.ownsRow W.heap.size 113 4 r x.mod.pats.length (x.mod.pats.flatMap patC)) ∧ Below W.heap.size W w') := fun W hb => clonePat_any _ _ W ((hP.below hb).more hb.size) l3
  obtain ⟨pe, ke, e4, _⟩ := hE
  obtain ⟨pi, ki, e5, _⟩ := hI
  obtain ⟨pp, kp, e6, _⟩ := hP
  have HY : Hid (∀ (W : World) r1 r2 r3, W.ownsRow w.heap.size 129 2 r1 x.mod.exps.length (x.mod.exps.flatMap expC) → W.ownsRow w.heap.size 106 4 r2 x.mod.imps.length (x.mod.imps.flatMap impC) → W.ownsRow w.heap.size 113 4 r3 x.mod.pats.length (x.mod.pats.flatMap patC) → ∃ y : PV, (Ending.returned (.agg #[.string x.mod.name, .int .i64 x.mod.major, .int .i64 x.mod.minor, .string x.mod.text, r1, r2, r3, .int .i64 x.first])) = .returned y.val ∧ y.plc = x.plc ∧ OwnsPlc w.heap.size W y) := fun W r1 r2 r3 h1 h2 h3 => ⟨⟨x.mod, r1, r2, r3, x.first⟩, rfl, rfl, h1, h2, h3⟩
  obtain ⟨⟨N, ma, mi, T, es, is, ps⟩, ve, vi, vp, fi⟩ := x
  dsimp only [PV.val] at *
  subst e4 e5 e6
  generalize es.flatMap expC = xe at *
  generalize is.flatMap impC = xi at *
  generalize ps.flatMap patC = xp at *
  generalize es.length = le at *
  generalize is.length = li at *
  generalize ps.length = lp at *
  have B1 : Below w.heap.size w ((w.alloc (.cells #[.string N, .int .i64 ma, .int .i64 mi, .string T, .slice pe le ke, .slice pi li ki, .slice pp lp kp, .int .i64 fi] 57)).alloc (.cells #[.string ⟨#[]⟩, .int .i64 0, .int .i64 0, .string ⟨#[]⟩, .slice none 0 0, .slice none 0 0, .slice none 0 0, .int .i64 0] 57)) := ((Below.refl _ _).alloc (Nat.le_refl _) _).alloc (by simp) _
  have C1 : CellsAt ((w.alloc (.cells #[.string N, .int .i64 ma, .int .i64 mi, .string T, .slice pe le ke, .slice pi li ki, .slice pp lp kp, .int .i64 fi] 57)).alloc (.cells #[.string ⟨#[]⟩, .int .i64 0, .int .i64 0, .string ⟨#[]⟩, .slice none 0 0, .slice none 0 0, .slice none 0 0, .int .i64 0] 57)) w.heap.size 57 #[.string N, .int .i64 ma, .int .i64 mi, .string T, .slice pe le ke, .slice pi li ki, .slice pp lp kp, .int .i64 fi] := (CellsAt.new w 57 #[.string N, .int .i64 ma, .int .i64 mi, .string T, .slice pe le ke, .slice pi li ki, .slice pp lp kp, .int .i64 fi]).kept (World.grownBy_alloc _ _ none) (by simp)
  have R1 : CellsAt ((w.alloc (.cells #[.string N, .int .i64 ma, .int .i64 mi, .string T, .slice pe le ke, .slice pi li ki, .slice pp lp kp, .int .i64 fi] 57)).alloc (.cells #[.string ⟨#[]⟩, .int .i64 0, .int .i64 0, .string ⟨#[]⟩, .slice none 0 0, .slice none 0 0, .slice none 0 0, .int .i64 0] 57)) (w.heap.size + 1) 57 #[.string ⟨#[]⟩, .int .i64 0, .int .i64 0, .string ⟨#[]⟩, .slice none 0 0, .slice none 0 0, .slice none 0 0, .int .i64 0] := by
    have := CellsAt.new (w.alloc (.cells #[.string N, .int .i64 ma, .int .i64 mi, .string T, .slice pe le ke, .slice pi li ki, .slice pp lp kp, .int .i64 fi] 57)) 57 #[.string ⟨#[]⟩, .int .i64 0, .int .i64 0, .string ⟨#[]⟩, .slice none 0 0, .slice none 0 0, .slice none 0 0, .int .i64 0]
    rw [World.size_alloc] at this
    exact this
  go_enter Tryz.func81, Tryz.ntmps81
  go_wp2_with fail
  refine (HE.out _ B1).mono ?_
  generalize ((w.alloc (.cells #[.string N, .int .i64 ma, .int .i64 mi, .string T, .slice pe le ke, .slice pi li ki, .slice pp lp kp, .int .i64 fi] 57)).alloc (.cells #[.string ⟨#[]⟩, .int .i64 0, .int .i64 0, .string ⟨#[]⟩, .slice none 0 0, .slice none 0 0, .slice none 0 0, .int .i64 0] 57)) = u1 at B1 C1 R1
  clear HE
  rintro e w2 ⟨⟨r1, rfl, o1⟩, b1⟩
  obtain ⟨a1, c1, rfl⟩ := own_form o1
  have z1 : w.heap.size < u1.heap.size := (CellsAt.lt C1)
  have y1 : w.heap.size + 1 < u1.heap.size := (CellsAt.lt R1)
  replace C1 := CellsAt.below C1 b1 (CellsAt.lt C1)
  replace R1 := CellsAt.below R1 b1 (CellsAt.lt R1)
  replace B1 := B1.trans (b1.mono B1.size)
  have C1' : CellsAt (w2.setCell ⟨w.heap.size, 4, none⟩ (.slice a1 le c1)) w.heap.size 57 #[.string N, .int .i64 ma, .int .i64 mi, .string T, .slice a1 le c1, .slice pi li ki, .slice pp lp kp, .int .i64 fi] := CellsAt.set 4 (.slice a1 le c1) C1
  have g1 := grown_set w2 w.heap.size 4 (.slice a1 le c1)
  have R1' := CellsAt.kept R1 g1 (by simp)
  have B1' := B1.grown g1 B1.size (fun k e => by obtain rfl := Option.some.inj e; exact Nat.le_refl _)
  have o1' := own_kept o1 g1 (fun k e => by obtain rfl := Option.some.inj e; omega)
  have q4 := CellsAt.cell C1 4
  have f4 := CellsAt.frozen C1 4
  have q5 := CellsAt.cell C1 5
  have hl1 := (CellsAt.lt C1)
  have hm1 := (CellsAt.lt R1)
  simp at q4 q5
  have HC1 : Hid _ := C1'
  have HR1 : Hid _ := R1'
  have HB1 : Hid _ := B1'
  have Ho1 : Hid _ := o1'
  clear C1 R1 B1 C1' R1' B1' g1 b1 o1 o1'
  go_wp2_with fail
  refine (HI.out _ HB1.out).mono ?_
  have C1 := HC1.out
  clear HC1
  have R1 := HR1.out
  clear HR1
  have B1 := HB1.out
  clear HB1
  have o1 := Ho1.out
  clear Ho1
  clear q4 q5 f4 hl1 hm1
  generalize w2.setCell ⟨w.heap.size, 4, none⟩ (.slice a1 le c1) = u2 at C1 R1 B1 o1
  clear HI
  rintro e w3 ⟨⟨r2, rfl, o2⟩, b2⟩
  obtain ⟨a2, c2, rfl⟩ := own_form o2
  have z2 : w.heap.size < u2.heap.size := (CellsAt.lt C1)
  have y2 : w.heap.size + 1 < u2.heap.size := (CellsAt.lt R1)
  replace C1 := CellsAt.below C1 b2 (CellsAt.lt C1)
  replace R1 := CellsAt.below R1 b2 (CellsAt.lt R1)
  replace B1 := B1.trans (b2.mono B1.size)
  replace o1 := own_below o1 b2
  have C1' : CellsAt (w3.setCell ⟨w.heap.size, 5, none⟩ (.slice a2 li c2)) w.heap.size 57 #[.string N, .int .i64 ma, .int .i64 mi, .string T, .slice a1 le c1, .slice a2 li c2, .slice pp lp kp, .int .i64 fi] := CellsAt.set 5 (.slice a2 li c2) C1
  have g2 := grown_set w3 w.heap.size 5 (.slice a2 li c2)
  have R1' := CellsAt.kept R1 g2 (by simp)
  have B1' := B1.grown g2 B1.size (fun k e => by obtain rfl := Option.some.inj e; exact Nat.le_refl _)
  have o1' := own_kept o1 g2 (fun k e => by obtain rfl := Option.some.inj e; omega)
  have o2' := own_kept o2 g2 (fun k e => by obtain rfl := Option.some.inj e; omega)
  have q5 := CellsAt.cell C1 5
  have f5 := CellsAt.frozen C1 5
  have q6 := CellsAt.cell C1 6
  have hl2 := (CellsAt.lt C1)
  have hm2 := (CellsAt.lt R1)
  simp at q5 q6
  have HC1 : Hid _ := C1'
  have HR1 : Hid _ := R1'
  have HB1 : Hid _ := B1'
  have Ho1 : Hid _ := o1'
  have Ho2 : Hid _ := o2'
  clear C1 R1 B1 C1' R1' B1' g2 b2 o1 o1' o2 o2'
  go_wp2_with fail
  refine (HP.out _ HB1.out).mono ?_
  have C1 := HC1.out
  clear HC1
  have R1 := HR1.out
  clear HR1
  have B1 := HB1.out
  clear HB1
  have o1 := Ho1.out
  clear Ho1
  have o2 := Ho2.out
  clear Ho2
  clear q5 q6 f5 hl2 hm2
  generalize w3.setCell ⟨w.heap.size, 5, none⟩ (.slice a2 li c2) = u3 at C1 R1 B1 o1 o2
  clear HP
  rintro e w4 ⟨⟨r3, rfl, o3⟩, b3⟩
  obtain ⟨a3, c3, rfl⟩ := own_form o3
  have z3 : w.heap.size < u3.heap.size := (CellsAt.lt C1)
  have y3 : w.heap.size + 1 < u3.heap.size := (CellsAt.lt R1)
  replace C1 := CellsAt.below C1 b3 (CellsAt.lt C1)
  replace R1 := CellsAt.below R1 b3 (CellsAt.lt R1)
  replace B1 := B1.trans (b3.mono B1.size)
  replace o1 := own_below o1 b3
  replace o2 := own_below o2 b3
  have C1' : CellsAt (w4.setCell ⟨w.heap.size, 6, none⟩ (.slice a3 lp c3)) w.heap.size 57 #[.string N, .int .i64 ma, .int .i64 mi, .string T, .slice a1 le c1, .slice a2 li c2, .slice a3 lp c3, .int .i64 fi] := CellsAt.set 6 (.slice a3 lp c3) C1
  have g3 := grown_set w4 w.heap.size 6 (.slice a3 lp c3)
  have R1' := CellsAt.kept R1 g3 (by simp)
  have B1' := B1.grown g3 B1.size (fun k e => by obtain rfl := Option.some.inj e; exact Nat.le_refl _)
  have o1' := own_kept o1 g3 (fun k e => by obtain rfl := Option.some.inj e; omega)
  have o2' := own_kept o2 g3 (fun k e => by obtain rfl := Option.some.inj e; omega)
  have o3' := own_kept o3 g3 (fun k e => by obtain rfl := Option.some.inj e; omega)
  have q6 := CellsAt.cell C1 6
  have f6 := CellsAt.frozen C1 6
  have q0 := CellsAt.cell C1 0
  have r0 := CellsAt.cell R1 0
  have s0 := CellsAt.frozen R1 0
  have q1 := CellsAt.cell C1 1
  have r1 := CellsAt.cell R1 1
  have s1 := CellsAt.frozen R1 1
  have q2 := CellsAt.cell C1 2
  have r2 := CellsAt.cell R1 2
  have s2 := CellsAt.frozen R1 2
  have q3 := CellsAt.cell C1 3
  have r3 := CellsAt.cell R1 3
  have s3 := CellsAt.frozen R1 3
  have q4 := CellsAt.cell C1 4
  have r4 := CellsAt.cell R1 4
  have s4 := CellsAt.frozen R1 4
  have q5 := CellsAt.cell C1 5
  have r5 := CellsAt.cell R1 5
  have s5 := CellsAt.frozen R1 5
  have r6 := CellsAt.cell R1 6
  have s6 := CellsAt.frozen R1 6
  have q7 := CellsAt.cell C1 7
  have r7 := CellsAt.cell R1 7
  have s7 := CellsAt.frozen R1 7
  have hl3 := (CellsAt.lt C1)
  have hm3 := (CellsAt.lt R1)
  simp at q0 q1 q2 q3 q4 q5 q6 q7 r0 r1 r2 r3 r4 r5 r6 r7
  have HC1 : Hid _ := C1'
  have HR1 : Hid _ := R1'
  have HB1 : Hid _ := B1'
  have Ho1 : Hid _ := o1'
  have Ho2 : Hid _ := o2'
  have Ho3 : Hid _ := o3'
  clear C1 R1 B1 C1' R1' B1' g3 b3 o1 o1' o2 o2' o3 o3'
  go_wp2
  have C1 := HC1.out
  have R1 := HR1.out
  have B1 := HB1.out
  have o1 := Ho1.out
  have o2 := Ho2.out
  have o3 := Ho3.out
  clear HC1 HR1 HB1 Ho1 Ho2 Ho3
  have hF := sets8 (W := w4.setCell ⟨w.heap.size, 6, none⟩ (.slice a3 lp c3)) (B := w.heap.size + 1) (t := 57) R1 (.string N) (.int .i64 ma) (.int .i64 mi) (.string T) (.slice a1 le c1) (.slice a2 li c2) (.slice a3 lp c3) (.int .i64 fi)
  have hG := sets8_grown (w4.setCell ⟨w.heap.size, 6, none⟩ (.slice a3 lp c3)) (w.heap.size + 1) (.string N) (.int .i64 ma) (.int .i64 mi) (.string T) (.slice a1 le c1) (.slice a2 li c2) (.slice a3 lp c3) (.int .i64 fi)
  (try simp only [Exit.inBlock, Exit.then])
  refine bodyPost_ret (results_cell_row rfl _ _ _ _ _ _ _ rfl hF Tryz.underlying57 rfl (by kernel_rfl)) rfl ?_
  refine ⟨HY.out _ _ _ _ (row_less2 (own_kept o1 hG (fun k e => by obtain rfl := Option.some.inj e; omega)) (by omega)) (row_less2 (own_kept o2 hG (fun k e => by obtain rfl := Option.some.inj e; omega)) (by omega)) (row_less2 (own_kept o3 hG (fun k e => by obtain rfl := Option.some.inj e; omega)) (by omega)), B1.grown hG B1.size (fun k e => by obtain rfl := Option.some.inj e; omega)⟩

end Go.Proofs.YtlpnfbpgnfappaaGreat

/- The contract of registry.Find. -/
namespace Go.Proofs.YtlpnfbpgnfappaaGreat
open Go.RowKit Go.PlainAid Go.Lib

set_option maxRecDepth 100000

def zeroP : Plc := ⟨⟨⟨#[]⟩, 0, 0, ⟨#[]⟩, [], [], []⟩, 0⟩
def zeroPV : PV := ⟨⟨⟨#[]⟩, 0, 0, ⟨#[]⟩, [], [], []⟩, .slice none 0 0, .slice none 0 0, .slice none 0 0, 0⟩
theorem zeroPV_owns (n : Nat) (W : World) : OwnsPlc n W zeroPV := ⟨World.ownsRow_nil _ _ _ _, World.ownsRow_nil _ _ _ _, World.ownsRow_nil _ _ _ _⟩
/-- What Find answers. -/
def rgFind (K : Ker) (L : List Plc) (name : ByteArray) : Plc × Int :=
  if chkRg K L ≠ 0 then (zeroP, chkRg K L) else match L.find? fun p => p.mod.name == name with
  | none => (zeroP, 5)
  | some p => (p, 0)
theorem rgFind_cases (K : Ker) (l : List PV) (name : ByteArray) :
    (chkRg K (l.map PV.plc) ≠ 0 ∧ rgFind K (l.map PV.plc) name = (zeroP, chkRg K (l.map PV.plc))) ∨
    (chkRg K (l.map PV.plc) = 0 ∧ ixFrom (fun x : PV => x.mod.name == name) 0 l = -1 ∧ rgFind K (l.map PV.plc) name = (zeroP, 5)) ∨
    (chkRg K (l.map PV.plc) = 0 ∧ ∃ (j : Nat) (x : PV), l[j]? = some x ∧ ixFrom (fun x : PV => x.mod.name == name) 0 l = (j : Int) ∧ rgFind K (l.map PV.plc) name = (x.plc, 0)) := by
  by_cases h : chkRg K (l.map PV.plc) = 0
  · rcases ix_find (fun x : PV => x.mod.name == name) l 0 with ⟨h1, h2⟩ | ⟨j, x, h1, h2, h3⟩
    · refine .inr (.inl ⟨h, h2, ?_⟩)
      unfold rgFind
      rw [if_neg (by omega), find_plc, h1]
      rfl
    · refine .inr (.inr ⟨h, j, x, h2, by simpa using h3, ?_⟩)
      unfold rgFind
      rw [if_neg (by omega), find_plc, h1]
      rfl
  · refine .inl ⟨h, ?_⟩
    unfold rgFind
    rw [if_pos h]

theorem rgFind1_any (B : Nat) (name : ByteArray) (x : PV) (w : World) (hlt : B < w.heap.size) (hB : w.cell? ⟨B, 0, none⟩ = some (.string name)) (hat : PlcAt w.heap.size w x) :
    Calls Tryz.prog 80 #[x.val, .pointer (some ⟨B, 0, none⟩)] w fun e w' => e = .returned (.bool (x.mod.name == name)) ∧ Below w.heap.size w w' := by
  rw [← toList_beq2]
  obtain ⟨⟨pe, ke, e4, _⟩, ⟨pi, ki, e5, _⟩, ⟨pp, kp, e6, _⟩⟩ := hat
  obtain ⟨⟨N, ma, mi, T, es, is, ps⟩, ve, vi, vp, fi⟩ := x
  dsimp only at e4 e5 e6
  subst e4 e5 e6
  dsimp only [PV.val]
  generalize es.length = le at *
  generalize is.length = li at *
  generalize ps.length = lp at *
  go_enter Tryz.func80, Tryz.ntmps80
  go_wp2
  go_ret
  exact ⟨rfl, (Below.refl _ _).alloc (Nat.le_refl _) _⟩

set_option maxHeartbeats 8000000 in
theorem regFind_any (K : Ker) (l : List PV) (v : Value) (name : ByteArray) (w : World) (h : IsReg w.heap.size w v K l) (hf : K.fits) (hfit : ∀ x ∈ l, x.mod.fits) :
    Calls Tryz.prog 29 #[v, .string name] w fun e w' => (∃ y : PV, e = .returned (.tuple #[y.val, .int .i64 (rgFind K (l.map PV.plc) name).2]) ∧ y.plc = (rgFind K (l.map PV.plc) name).1 ∧ OwnsPlc w.heap.size w' y) ∧ Below w.heap.size w w' := by
  have HC : Hid (∀ W, Below w.heap.size w W → Calls Tryz.prog 68 #[v] W fun e w' => e = .returned (.int .i64 (chkRg K (l.map PV.plc))) ∧ Below W.heap.size W w') := fun W hb => regCheck_any K l v W ((h.below hb).more hb.size) hf hfit
  obtain ⟨ve, vl, rfl, hE, hrow⟩ := h
  have HI : Hid (∀ W B, Below w.heap.size w W → B < W.heap.size → W.cell? ⟨B, 0, none⟩ = some (.string name) → Calls Tryz.prog 79 #[vl, .func (.func 80) #[] #[.pointer (some ⟨B, 0, none⟩)]] W fun e w' => e = .returned (.int .i64 (ixFrom (fun x : PV => x.mod.name == name) 0 l)) ∧ Below W.heap.size W w') := by
    intro W B hb hlt hB
    exact ixPlc_any l vl 80 (.pointer (some ⟨B, 0, none⟩)) (fun w x => enters_of Tryz.func80 (by kernel_rfl) rfl _ w) _ W ((hrow.1.below hb).more hb.size) (fun x hx W' hb' => rgFind1_any B name x W' (Nat.lt_of_lt_of_le hlt hb'.size) ((hb'.cell (p := ⟨B, 0, none⟩) hlt).trans hB) ((((((hrow.2 x hx).below hb).more hb.size)).below hb').more hb'.size))
  have HM : Hid (chkRg K (l.map PV.plc) = 0 → ∀ x ∈ l, ∀ W, Below w.heap.size w W → Calls Tryz.prog 81 #[x.val] W fun e w' => (∃ y : PV, e = .returned y.val ∧ y.plc = x.plc ∧ OwnsPlc W.heap.size w' y) ∧ Below W.heap.size W w') := fun h0 x hx W hb => by
    have h1 := (link_at (chkRg_zero h0).1 hx).1
    have h2 := chkMod_exps h1
    exact copyPlc_any x W (((hrow.2 x hx).below hb).more hb.size) (by omega) (by omega) (by omega)
  have key := rgFind_cases K l name
  have hat := hrow.2
  obtain ⟨qe, je, rfl, _, _⟩ := hE
  obtain ⟨⟨a, cap, rfl, hmax, hrow⟩, _⟩ := hrow
  generalize rgFind K (l.map PV.plc) name = R at *
  generalize chkRg K (l.map PV.plc) = cr at *
  generalize ixFrom (fun x : PV => x.mod.name == name) 0 l = ix at *
  obtain ⟨ma, mi, ks⟩ := K
  dsimp only at *
  clear hf hfit
  generalize ks.length = lk at *
  have B1 : Below w.heap.size w (((w.alloc (.cells #[.int .i64 ma, .int .i64 mi, .slice qe lk je, .slice a l.length cap] 27)).alloc (.cells #[.string name] 9)).alloc (.cells #[.string ⟨#[]⟩, .int .i64 0, .int .i64 0, .string ⟨#[]⟩, .slice none 0 0, .slice none 0 0, .slice none 0 0, .int .i64 0] 57)) := (((Below.refl _ _).alloc (Nat.le_refl _) _).alloc (by simp) _).alloc (by simp; omega) _
  have C1 : CellsAt (((w.alloc (.cells #[.int .i64 ma, .int .i64 mi, .slice qe lk je, .slice a l.length cap] 27)).alloc (.cells #[.string name] 9)).alloc (.cells #[.string ⟨#[]⟩, .int .i64 0, .int .i64 0, .string ⟨#[]⟩, .slice none 0 0, .slice none 0 0, .slice none 0 0, .int .i64 0] 57)) w.heap.size 27 #[.int .i64 ma, .int .i64 mi, .slice qe lk je, .slice a l.length cap] := ((CellsAt.new w 27 #[.int .i64 ma, .int .i64 mi, .slice qe lk je, .slice a l.length cap]).kept (World.grownBy_alloc _ _ none) (by simp)).kept (World.grownBy_alloc _ _ none) (by simp)
  have N1 : CellsAt (((w.alloc (.cells #[.int .i64 ma, .int .i64 mi, .slice qe lk je, .slice a l.length cap] 27)).alloc (.cells #[.string name] 9)).alloc (.cells #[.string ⟨#[]⟩, .int .i64 0, .int .i64 0, .string ⟨#[]⟩, .slice none 0 0, .slice none 0 0, .slice none 0 0, .int .i64 0] 57)) (w.heap.size + 1) 9 #[.string name] := by
    have := (CellsAt.new (w.alloc (.cells #[.int .i64 ma, .int .i64 mi, .slice qe lk je, .slice a l.length cap] 27)) 9 #[.string name]).kept (World.grownBy_alloc _ (.cells #[.string ⟨#[]⟩, .int .i64 0, .int .i64 0, .string ⟨#[]⟩, .slice none 0 0, .slice none 0 0, .slice none 0 0, .int .i64 0] 57) none) (by simp)
    rw [World.size_alloc] at this
    exact this
  have R1 : CellsAt (((w.alloc (.cells #[.int .i64 ma, .int .i64 mi, .slice qe lk je, .slice a l.length cap] 27)).alloc (.cells #[.string name] 9)).alloc (.cells #[.string ⟨#[]⟩, .int .i64 0, .int .i64 0, .string ⟨#[]⟩, .slice none 0 0, .slice none 0 0, .slice none 0 0, .int .i64 0] 57)) (w.heap.size + 1 + 1) 57 #[.string ⟨#[]⟩, .int .i64 0, .int .i64 0, .string ⟨#[]⟩, .slice none 0 0, .slice none 0 0, .slice none 0 0, .int .i64 0] := by
    have := CellsAt.new ((w.alloc (.cells #[.int .i64 ma, .int .i64 mi, .slice qe lk je, .slice a l.length cap] 27)).alloc (.cells #[.string name] 9)) 57 #[.string ⟨#[]⟩, .int .i64 0, .int .i64 0, .string ⟨#[]⟩, .slice none 0 0, .slice none 0 0, .slice none 0 0, .int .i64 0]
    rw [World.size_alloc, World.size_alloc] at this
    exact this
  go_enter Tryz.func29, Tryz.ntmps29
  go_wp2_with fail
  refine (HC.out _ B1).mono ?_
  rintro e w2 ⟨rfl, b2⟩
  replace B1 := B1.trans (b2.mono B1.size)
  replace C1 := C1.below b2 C1.lt
  replace N1 := N1.below b2 N1.lt
  replace R1 := R1.below b2 R1.lt
  clear b2 HC
  have k3 := C1.cell 3
  have hk := C1.lt
  simp at k3
  rcases key with ⟨h0, rfl⟩ | ⟨rfl, rfl, rfl⟩ | ⟨rfl, j, x, hx, rfl, rfl⟩
  · have h0' : (cr != 0) = true := by simpa using h0
    have r0 := CellsAt.cell R1 0
    have s0 := CellsAt.frozen R1 0
    have r1 := CellsAt.cell R1 1
    have s1 := CellsAt.frozen R1 1
    have r2 := CellsAt.cell R1 2
    have s2 := CellsAt.frozen R1 2
    have r3 := CellsAt.cell R1 3
    have s3 := CellsAt.frozen R1 3
    have r4 := CellsAt.cell R1 4
    have s4 := CellsAt.frozen R1 4
    have r5 := CellsAt.cell R1 5
    have s5 := CellsAt.frozen R1 5
    have r6 := CellsAt.cell R1 6
    have s6 := CellsAt.frozen R1 6
    have r7 := CellsAt.cell R1 7
    have s7 := CellsAt.frozen R1 7
    have hr := CellsAt.lt R1
    simp at r0 r1 r2 r3 r4 r5 r6 r7
    have HR1 : Hid _ := R1
    have HB1 : Hid _ := B1
    clear h0 HI HM R1 B1 C1 N1
    go_wp2
    clear r0 r1 r2 r3 r4 r5 r6 r7 s0 s1 s2 s3 s4 s5 s6 s7
    have hF := sets8 (W := w2) (B := w.heap.size + 1 + 1) (t := 57) HR1.out (.string ⟨#[]⟩) (.int .i64 0) (.int .i64 0) (.string ⟨#[]⟩) (.slice none 0 0) (.slice none 0 0) (.slice none 0 0) (.int .i64 0)
    have hG := sets8_grown w2 (w.heap.size + 1 + 1) (.string ⟨#[]⟩) (.int .i64 0) (.int .i64 0) (.string ⟨#[]⟩) (.slice none 0 0) (.slice none 0 0) (.slice none 0 0) (.int .i64 0)
    (try simp only [Exit.inBlock, Exit.then])
    refine bodyPost_ret (results_cell_tmp_row rfl _ _ _ _ _ _ _ rfl hF Tryz.underlying57 rfl (by kernel_rfl)) rfl ?_
    exact ⟨⟨zeroPV, rfl, rfl, zeroPV_owns _ _⟩, HB1.out.grown hG HB1.out.size (fun k e => by obtain rfl := Option.some.inj e; omega)⟩
  · clear HM
    go_wp2_with fail
    refine (HI.out w2 (w.heap.size + 1) B1 N1.lt (N1.cell 0)).mono ?_
    rintro e w3 ⟨rfl, b3⟩
    replace B1 := B1.trans (b3.mono B1.size)
    replace R1 := R1.below b3 R1.lt
    clear HI b3 C1 N1 k3 hk
    have r0 := CellsAt.cell R1 0
    have s0 := CellsAt.frozen R1 0
    have r1 := CellsAt.cell R1 1
    have s1 := CellsAt.frozen R1 1
    have r2 := CellsAt.cell R1 2
    have s2 := CellsAt.frozen R1 2
    have r3 := CellsAt.cell R1 3
    have s3 := CellsAt.frozen R1 3
    have r4 := CellsAt.cell R1 4
    have s4 := CellsAt.frozen R1 4
    have r5 := CellsAt.cell R1 5
    have s5 := CellsAt.frozen R1 5
    have r6 := CellsAt.cell R1 6
    have s6 := CellsAt.frozen R1 6
    have r7 := CellsAt.cell R1 7
    have s7 := CellsAt.frozen R1 7
    have hr := CellsAt.lt R1
    simp at r0 r1 r2 r3 r4 r5 r6 r7
    have HR1 : Hid _ := R1
    have HB1 : Hid _ := B1
    clear R1 B1
    go_wp2
    clear r0 r1 r2 r3 r4 r5 r6 r7 s0 s1 s2 s3 s4 s5 s6 s7
    have hF := sets8 (W := w3) (B := w.heap.size + 1 + 1) (t := 57) HR1.out (.string ⟨#[]⟩) (.int .i64 0) (.int .i64 0) (.string ⟨#[]⟩) (.slice none 0 0) (.slice none 0 0) (.slice none 0 0) (.int .i64 0)
    have hG := sets8_grown w3 (w.heap.size + 1 + 1) (.string ⟨#[]⟩) (.int .i64 0) (.int .i64 0) (.string ⟨#[]⟩) (.slice none 0 0) (.slice none 0 0) (.slice none 0 0) (.int .i64 0)
    (try simp only [Exit.inBlock, Exit.then])
    refine bodyPost_ret (results_cell_tmp_row rfl _ _ _ _ _ _ _ rfl hF Tryz.underlying57 rfl (by kernel_rfl)) rfl ?_
    exact ⟨⟨zeroPV, rfl, rfl, zeroPV_owns _ _⟩, HB1.out.grown hG HB1.out.size (fun k e => by obtain rfl := Option.some.inj e; omega)⟩
  · have HX : Hid (∀ W, Below w.heap.size w W → Calls Tryz.prog 81 #[x.val] W fun e w' => (∃ y : PV, e = .returned y.val ∧ y.plc = x.plc ∧ OwnsPlc W.heap.size w' y) ∧ Below W.heap.size W w') := HM.out (by first | rfl | trivial) x (List.mem_of_getElem? hx)
    have hlt : (j : Int) < (l.length : Int) := by have := (List.getElem?_eq_some_iff.1 hx).1; omega
    have hj0 : ¬ ((j : Int) < 0) := by omega
    rcases hrow with h | ⟨b, off, rfl, hbn, hcells⟩
    · subst h; simp at hx
    go_wp2_with fail
    refine (HI.out w2 (w.heap.size + 1) B1 N1.lt (N1.cell 0)).mono ?_
    rintro e w3 ⟨rfl, b3⟩
    replace B1 := B1.trans (b3.mono B1.size)
    replace C1 := C1.below b3 C1.lt
    replace R1 := R1.below b3 R1.lt
    clear HI b3 N1 k3 hk HM
    have k3 := C1.cell 3
    have hk := C1.lt
    simp at k3
    have c0 := (B1.cell (p := ⟨b, off + j * 8 + 0, none⟩) hbn).trans (hcells j _ hx 0 (by omega))
    have c1 := (B1.cell (p := ⟨b, off + j * 8 + 1, none⟩) hbn).trans (hcells j _ hx 1 (by omega))
    have c2 := (B1.cell (p := ⟨b, off + j * 8 + 2, none⟩) hbn).trans (hcells j _ hx 2 (by omega))
    have c3 := (B1.cell (p := ⟨b, off + j * 8 + 3, none⟩) hbn).trans (hcells j _ hx 3 (by omega))
    have c4 := (B1.cell (p := ⟨b, off + j * 8 + 4, none⟩) hbn).trans (hcells j _ hx 4 (by omega))
    have c5 := (B1.cell (p := ⟨b, off + j * 8 + 5, none⟩) hbn).trans (hcells j _ hx 5 (by omega))
    have c6 := (B1.cell (p := ⟨b, off + j * 8 + 6, none⟩) hbn).trans (hcells j _ hx 6 (by omega))
    have c7 := (B1.cell (p := ⟨b, off + j * 8 + 7, none⟩) hbn).trans (hcells j _ hx 7 (by omega))
    have HY : Hid (∀ y : PV, y.plc = x.plc → ∃ r1 r2 r3, y = ⟨x.mod, r1, r2, r3, x.first⟩) := fun y hy => by
      obtain ⟨m, r1, r2, r3, f⟩ := y
      unfold PV.plc at hy
      injection hy with h1 h2
      dsimp only at h1 h2
      exact ⟨r1, r2, r3, by rw [h1, h2]⟩
    obtain ⟨⟨pe, ke, e4, _⟩, ⟨pi, ki, e5, _⟩, ⟨pp, kp, e6, _⟩⟩ := hat x (List.mem_of_getElem? hx)
    obtain ⟨⟨N, xa, xi, T, es, is, ps⟩, ve, vi, vp, fi⟩ := x
    dsimp only [PV.val] at *
    subst e4 e5 e6
    dsimp only [PV.cell] at c0 c1 c2 c3 c4 c5 c6 c7
    rw [Nat.add_zero] at c0
    clear hcells hx hat
    have hbn3 : b < w3.heap.size := Nat.lt_of_lt_of_le hbn B1.size
    go_wp2_with fail
    refine (HX.out _ B1).mono ?_
    rintro e w4 ⟨⟨y, rfl, hy, hO⟩, b4⟩
    have hz3 : w.heap.size + 1 + 1 < w3.heap.size := R1.lt
    replace B1 := B1.trans (b4.mono B1.size)
    replace R1 := R1.below b4 R1.lt
    clear HX b4 c0 c1 c2 c3 c4 c5 c6 c7 k3 hk C1
    obtain ⟨r1, r2, r3, rfl⟩ := HY.out y hy
    have hO' := hO
    obtain ⟨o1, o2, o3⟩ := hO'
    dsimp only at o1 o2 o3
    obtain ⟨a1, c1, rfl⟩ := own_form o1
    obtain ⟨a2, c2, rfl⟩ := own_form o2
    obtain ⟨a3, c3, rfl⟩ := own_form o3
    have HO : Hid _ := hO
    dsimp only [PV.val]
    generalize hle : es.length = le at *
    generalize hli : is.length = li at *
    generalize hlp : ps.length = lp at *
    have r0 := CellsAt.cell R1 0
    have s0 := CellsAt.frozen R1 0
    have r1 := CellsAt.cell R1 1
    have s1 := CellsAt.frozen R1 1
    have r2 := CellsAt.cell R1 2
    have s2 := CellsAt.frozen R1 2
    have r3 := CellsAt.cell R1 3
    have s3 := CellsAt.frozen R1 3
    have r4 := CellsAt.cell R1 4
    have s4 := CellsAt.frozen R1 4
    have r5 := CellsAt.cell R1 5
    have s5 := CellsAt.frozen R1 5
    have r6 := CellsAt.cell R1 6
    have s6 := CellsAt.frozen R1 6
    have r7 := CellsAt.cell R1 7
    have s7 := CellsAt.frozen R1 7
    have hr := CellsAt.lt R1
    simp at r0 r1 r2 r3 r4 r5 r6 r7
    have HR1 : Hid _ := R1
    have HB1 : Hid _ := B1
    clear R1 B1 o1 o2 o3 hO HY hy
    go_wp2
    clear r0 r1 r2 r3 r4 r5 r6 r7 s0 s1 s2 s3 s4 s5 s6 s7
    have hF := sets8 (W := w4) (B := w.heap.size + 1 + 1) (t := 57) HR1.out (.string N) (.int .i64 xa) (.int .i64 xi) (.string T) (.slice a1 le c1) (.slice a2 li c2) (.slice a3 lp c3) (.int .i64 fi)
    have hG := sets8_grown w4 (w.heap.size + 1 + 1) (.string N) (.int .i64 xa) (.int .i64 xi) (.string T) (.slice a1 le c1) (.slice a2 li c2) (.slice a3 lp c3) (.int .i64 fi)
    (try simp only [Exit.inBlock, Exit.then])
    refine bodyPost_ret (results_cell_tmp_row rfl _ _ _ _ _ _ _ rfl hF Tryz.underlying57 rfl (by kernel_rfl)) rfl ?_
    refine ⟨⟨⟨⟨N, xa, xi, T, es, is, ps⟩, .slice a1 le c1, .slice a2 li c2, .slice a3 lp c3, fi⟩, rfl, rfl, ?_⟩, HB1.out.grown hG HB1.out.size (fun k e => by obtain rfl := Option.some.inj e; omega)⟩
    subst hle hli hlp
    obtain ⟨h1, h2, h3⟩ := HO.out
    have hk : ∀ k, some (w.heap.size + 1 + 1) = some k → k < w3.heap.size := fun k e => by obtain rfl := Option.some.inj e; exact hz3
    exact ⟨row_less2 (own_kept h1 hG hk) (by omega), row_less2 (own_kept h2 hG hk) (by omega), row_less2 (own_kept h3 hG hk) (by omega)⟩

end Go.Proofs.YtlpnfbpgnfappaaGreat

/- The contracts of the statements' kernel, pair, and of the document's SameInts. -/
namespace Go.Proofs.YtlpnfbpgnfappaaGreat
open Go.RowKit Go.PlainAid

set_option maxRecDepth 100000

def kernK : Ker := ⟨0, 0, [⟨⟨#[107]⟩, 2⟩]⟩
theorem kern_fits : kernK.fits := by
  intro e he
  have : e = ⟨⟨#[107]⟩, 2⟩ := by simpa [kernK] using he
  subst this
  decide
set_option maxHeartbeats 1000000 in
theorem kernelFn_any (w : World) : Calls Tryz.prog 71 #[] w fun e w' => ∃ v, e = .returned v ∧ IsKer w'.heap.size w' v kernK ∧ Below w.heap.size w w' := by
  go_enter Tryz.func71, Tryz.ntmps71
  go_wp2
  (try simp only [Exit.inBlock, Exit.then])
  have hF : CellsAt ((w.alloc (.cells #[.int .i64 0, .int .i64 0, .slice (some ⟨w.heap.size + 1, 0, none⟩) 1 1] 24)).alloc (.cells #[.string ⟨#[107]⟩, .int .i64 2] 129)) w.heap.size 24 #[.int .i64 0, .int .i64 0, .slice (some ⟨w.heap.size + 1, 0, none⟩) 1 1] := CellsAt.kept (CellsAt.new w _ _) (World.grownBy_alloc _ _ none) (by simp)
  refine bodyPost_ret (results_cell_row rfl _ _ _ _ _ _ _ rfl hF Tryz.underlying24 rfl (by kernel_rfl)) rfl ?_
  refine ⟨_, rfl, ⟨_, rfl, ?_⟩, ((Below.refl _ _).alloc (Nat.le_refl _) _).alloc (by simp) _⟩
  have c := CellsAt.new (w.alloc (.cells #[.int .i64 0, .int .i64 0, .slice (some ⟨w.heap.size + 1, 0, none⟩) 1 1] 24)) 129 #[.string ⟨#[107]⟩, .int .i64 2]
  rw [World.size_alloc] at c
  exact rowOf_cells (C := expC) (cells := Exp.cell) (sz := 2) (fun _ => rfl) expC_at c kernK.exps (by decide) 1 rfl

set_option maxHeartbeats 1000000 in
theorem sameInts_yes (l : List Int) (v1 v2 : Value) (w : World) (h1 : RowOf 1 intCell w.heap.size w v1 l) (h2 : RowOf 1 intCell w.heap.size w v2 l) :
    Calls Tryz.prog 73 #[v1, v2] w fun e w' => e = .returned (.bool true) ∧ Below w.heap.size w w' := by
  obtain ⟨a1, c1, rfl, hl, h1⟩ := h1
  obtain ⟨a2, c2, rfl, _, h2⟩ := h2
  go_enter Tryz.func73, Tryz.ntmps73
  go_wp2
  go_loopw [5] (fun i wr => ∃ (k : Nat), k ≤ l.length ∧ i = .int .i64 k ∧ Below w.heap.size w wr) (fun i _ => l.length - (intOf i).toNat)
  case atStart => exact ⟨0, Nat.zero_le _, rfl, Below.refl _ _⟩
  case round =>
    obtain ⟨k, hk, rfl, B⟩ := hrel
    by_cases hlt : k < l.length
    · obtain ⟨x, hx⟩ : ∃ x, l[k]? = some x := ⟨_, List.getElem?_eq_getElem hlt⟩
      rcases h1 with h | ⟨b1, o1, rfl, hb1, hc1⟩
      · subst h; simp at hlt
      rcases h2 with h | ⟨b2, o2, rfl, hb2, hc2⟩
      · subst h; simp at hlt
      have d1 : wr.cell? ⟨b1, o1 + k, none⟩ = some (.int .i64 x) := by
        have := (B.cell (p := ⟨b1, o1 + k * 1 + 0, none⟩) hb1).trans (hc1 k _ hx 0 (by omega))
        rw [Nat.mul_one] at this
        exact this
      have d2 : wr.cell? ⟨b2, o2 + k, none⟩ = some (.int .i64 x) := by
        have := (B.cell (p := ⟨b2, o2 + k * 1 + 0, none⟩) hb2).trans (hc2 k _ hx 0 (by omega))
        rw [Nat.mul_one] at this
        exact this
      have hne : (x != x) = false := by simp
      clear hc1 hc2 hx
      go_wp2
      go_quiet (fail)
      all_goals go_wp2
      exact ⟨⟨k + 1, by omega, by go_num, below_drewN B _⟩, by simp [intOf]; omega⟩
    · obtain rfl : k = l.length := by omega
      go_wp2
      go_ret
      exact ⟨rfl, B⟩

end Go.Proofs.YtlpnfbpgnfappaaGreat

/- What must be in any case, of who is meant. -/
namespace Go.Proofs.YtlpnfbpgnfappaaGreat
open Go.RowKit Go.PlainAid

set_option maxRecDepth 100000

theorem find1 (vk : Value) (l : List PV) (v : Value) (w : World) (hl : l.map PV.plc = pairL) (hK : IsKer w.heap.size w vk kernK) (hP : IsPlcs w.heap.size w v l) :
    Calls Tryz.prog 70 #[vk, v, .agg #[.string ⟨#[108, 105, 98]⟩, .string ⟨#[102]⟩, .int .i64 1, .int .i64 1]] w fun e w' => e = .returned (.tuple #[.int .i64 4356, .int .i64 0]) ∧ Below w.heap.size w w' := by
  have := find_any kernK vk l v ⟨⟨#[108, 105, 98]⟩, ⟨#[102]⟩, 1, 1⟩ w hK kern_fits hP (pair_fits hl) ⟨by decide, by decide⟩
  rw [hl] at this
  have e : findRes kernK pairL ⟨⟨#[108, 105, 98]⟩, ⟨#[102]⟩, 1, 1⟩ = (4356, 0) := by kernel_rfl
  rw [e] at this
  exact this
theorem find2 (vk : Value) (l : List PV) (v : Value) (w : World) (hl : l.map PV.plc = pairL) (hK : IsKer w.heap.size w vk kernK) (hP : IsPlcs w.heap.size w v l) :
    Calls Tryz.prog 70 #[vk, v, .agg #[.string ⟨#[108, 105, 98]⟩, .string ⟨#[102]⟩, .int .i64 1, .int .i64 3]] w fun e w' => e = .returned (.tuple #[.int .i64 0, .int .i64 4]) ∧ Below w.heap.size w w' := by
  have := find_any kernK vk l v ⟨⟨#[108, 105, 98]⟩, ⟨#[102]⟩, 1, 3⟩ w hK kern_fits hP (pair_fits hl) ⟨by decide, by decide⟩
  rw [hl] at this
  have e : findRes kernK pairL ⟨⟨#[108, 105, 98]⟩, ⟨#[102]⟩, 1, 3⟩ = (0, 4) := by kernel_rfl
  rw [e] at this
  exact this
theorem all1 (vk : Value) (l : List PV) (v vm : Value) (w : World) (hl : l.map PV.plc = pairL) (hK : IsKer w.heap.size w vk kernK) (hP : IsPlcs w.heap.size w v l) (hM : IsMod w.heap.size w vm appM) :
    Calls Tryz.prog 32 #[vk, v, vm] w fun e w' => (∃ r, e = .returned (.tuple #[r, .int .i64 0]) ∧ RowOf 1 intCell w'.heap.size w' r [4356, 2]) ∧ Below w.heap.size w w' := by
  have := all_any kernK vk l v appM vm w hK kern_fits hP (pair_fits hl) hM fits_app
  rw [hl] at this
  have e : allRes kernK pairL appM = ([4356, 2], 0) := by kernel_rfl
  rw [e] at this
  exact this
theorem kernel1 (vk : Value) (w : World) (hK : IsKer w.heap.size w vk kernK) : Calls Tryz.prog 72 #[vk] w fun e w' => e = .returned (.int .i64 0) ∧ Below w.heap.size w w' := by
  have := kernel_any kernK vk w hK kern_fits
  have e : chkKer kernK = 0 := by kernel_rfl
  rwa [e] at this

set_option maxHeartbeats 4000000 in
theorem resolveBegun_any (w : World) : Calls Tryz.prog 22 #[] w fun e w' => e = .returned (.bool true) ∧ Below w.heap.size w w' := by
  go_enter Tryz.func22, Tryz.ntmps22
  go_wp2_with fail
  refine (kernelFn_any _).mono ?_
  rintro e w1 ⟨vk, rfl, hK, b1⟩
  go_wp2_with fail
  refine (pair_any _).mono ?_
  rintro e w2 ⟨v, l, rfl, hl, hP, b2⟩
  go_wp2_with fail
  refine (app_any _).mono ?_
  rintro e w3 ⟨vm, rfl, hM, b3⟩
  have b23 := b2.trans (b3.mono b2.size)
  have HK : Hid (IsKer w3.heap.size w3 vk kernK) := (hK.below b23).more b23.size
  have HP : Hid (IsPlcs w3.heap.size w3 v l) := (hP.below b3).more b3.size
  have HL : Hid (l.map PV.plc = pairL) := hl
  have B3 := b1.trans (b23.mono b1.size)
  obtain ⟨ve, vi, vp, rfl, hE, hI, hPt⟩ := hM
  obtain ⟨ai, ci, rfl, _, hI | ⟨b, off, rfl, hbn, hcells⟩⟩ := hI
  · exact absurd hI (by decide)
  have c0 : w3.cell? ⟨b, off, none⟩ = some (.string ⟨#[108, 105, 98]⟩) := hcells 0 ⟨⟨#[108, 105, 98]⟩, ⟨#[102]⟩, 1, 1⟩ rfl 0 (by omega)
  have c1 : w3.cell? ⟨b, off + 1, none⟩ = some (.string ⟨#[102]⟩) := hcells 0 ⟨⟨#[108, 105, 98]⟩, ⟨#[102]⟩, 1, 1⟩ rfl 1 (by omega)
  have c2 : w3.cell? ⟨b, off + 2, none⟩ = some (.int .i64 1) := hcells 0 ⟨⟨#[108, 105, 98]⟩, ⟨#[102]⟩, 1, 1⟩ rfl 2 (by omega)
  have c3 : w3.cell? ⟨b, off + 3, none⟩ = some (.int .i64 1) := hcells 0 ⟨⟨#[108, 105, 98]⟩, ⟨#[102]⟩, 1, 1⟩ rfl 3 (by omega)
  dsimp only [appM]
  have hfd : ∀ w : World, (Instr.field 31 (.agg #[.string ⟨#[97, 112, 112]⟩, .int .i64 0, .int .i64 0, .string ⟨#[46, 46, 46, 46, 46, 46, 46, 46]⟩, ve, .slice (some ⟨b, off, none⟩) 2 ci, vp]) 5).run Tryz.prog w = .ok (.slice (some ⟨b, off, none⟩) 2 ci) w := fun _ => by kernel_rfl
  clear hE hPt hcells hK hP hl b1 b2 b3 b23
  go_wp2_with fail
  refine (find1 vk l v _ HL.out HK.out HP.out).mono ?_
  rintro e w4 ⟨rfl, b4⟩
  have B4 := B3.trans (b4.mono B3.size)
  clear b4 c0 c1 c2 c3 HK HP HL B3 hfd
  go_wp2_with fail
  refine (kernelFn_any _).mono ?_
  rintro e w5 ⟨vk, rfl, hK, b5⟩
  go_wp2_with fail
  refine (pair_any _).mono ?_
  rintro e w6 ⟨v, l, rfl, hl, hP, b6⟩
  go_wp2_with fail
  refine (app_any _).mono ?_
  rintro e w7 ⟨vm, rfl, hM, b7⟩
  have b67 := b6.trans (b7.mono b6.size)
  have HK : Hid (IsKer w7.heap.size w7 vk kernK) := (hK.below b67).more b67.size
  have HP : Hid (IsPlcs w7.heap.size w7 v l) := (hP.below b7).more b7.size
  have HL : Hid (l.map PV.plc = pairL) := hl
  have HM : Hid (IsMod w7.heap.size w7 vm appM) := hM
  have B7 := B4.trans ((b5.trans (b67.mono b5.size)).mono B4.size)
  clear hK hP hl hM b5 b6 b7 b67 B4
  go_wp2_with fail
  refine (all1 vk l v vm _ HL.out HK.out HP.out HM.out).mono ?_
  rintro e w8 ⟨⟨r, rfl, hR⟩, b8⟩
  have B8 := B7.trans (b8.mono B7.size)
  have HR : Hid (RowOf 1 intCell w8.heap.size w8 r [4356, 2]) := hR
  clear b8 HK HP HL HM B7 hR
  go_wp2_with fail
  refine (kernelFn_any _).mono ?_
  rintro e w9 ⟨vk, rfl, hK, b9⟩
  go_wp2_with fail
  refine (pair_any _).mono ?_
  rintro e w10 ⟨v, l, rfl, hl, hP, b10⟩
  have HK : Hid (IsKer w10.heap.size w10 vk kernK) := (hK.below b10).more b10.size
  have HP : Hid (IsPlcs w10.heap.size w10 v l) := hP
  have HL : Hid (l.map PV.plc = pairL) := hl
  have b910 := b9.trans (b10.mono b9.size)
  have B10 := B8.trans (b910.mono B8.size)
  have HR10 : Hid (RowOf 1 intCell w10.heap.size w10 r [4356, 2]) := (HR.out.below b910).more b910.size
  clear hK hP hl b9 b10 b910 B8 HR
  go_wp2_with fail
  refine (find2 vk l v _ HL.out HK.out HP.out).mono ?_
  rintro e w11 ⟨rfl, b11⟩
  have B11 := B10.trans (b11.mono B10.size)
  have HR11 : Hid (RowOf 1 intCell w11.heap.size w11 r [4356, 2]) := (HR10.out.below b11).more b11.size
  clear b11 HK HP HL B10 HR10
  go_wp2_with fail
  refine (kernelFn_any _).mono ?_
  rintro e w12 ⟨vk, rfl, hK, b12⟩
  have HK : Hid (IsKer w12.heap.size w12 vk kernK) := hK
  have B12 := B11.trans (b12.mono B11.size)
  have HR12 : Hid (RowOf 1 intCell w12.heap.size w12 r [4356, 2]) := (HR11.out.below b12).more b12.size
  clear hK b12 HR11 B11
  go_wp2_with fail
  refine (kernel1 vk _ HK.out).mono ?_
  rintro e w13 ⟨rfl, b13⟩
  have B13 := B12.trans (b13.mono B12.size)
  have HR13 : Hid (RowOf 1 intCell w13.heap.size w13 r [4356, 2]) := (HR12.out.below b13).more b13.size
  clear b13 HR12 B12
  have HB14 : Hid (Below w13.heap.size w13 (w13.alloc (.cells #[.int .i64 4356, .int .i64 2] 3))) := (Below.refl _ _).alloc (Nat.le_refl _) _
  have HI14 : Hid (RowOf 1 intCell (w13.alloc (.cells #[.int .i64 4356, .int .i64 2] 3)).heap.size (w13.alloc (.cells #[.int .i64 4356, .int .i64 2] 3)) (.slice (some ⟨w13.heap.size, 0, none⟩) 2 2) [4356, 2]) :=
    rowOf_cells (C := intC) (cells := intCell) (sz := 1) (fun _ => rfl) intC_at (CellsAt.new w13 3 #[.int .i64 4356, .int .i64 2]) [4356, 2] (by decide) 2 rfl
  go_wp2_with fail
  refine (sameInts_yes [4356, 2] r _ _ ((HR13.out.below HB14.out).more HB14.out.size) HI14.out).mono ?_
  rintro e w15 ⟨rfl, b15⟩
  have B14 := B13.trans (HB14.out.mono B13.size)
  have B15 := B14.trans (b15.mono B14.size)
  go_wp2
  go_ret
  exact ⟨rfl, B15⟩

end Go.Proofs.YtlpnfbpgnfappaaGreat
