/- Texts that are laid together. -/
import Derived.Test.YtaklbnabgcglhabMrgI
import Derived.Test.YtaklbnabgcglhabMrgK
import Derived.Test.YtaklbnabgcglhabMrgH

/- What must be in any case, of graphs; rows of texts. -/
namespace Go.Proofs.Ytaklbnabgcglhab
open Go.RowKit Go.PlainAid

set_option maxRecDepth 100000

set_option maxHeartbeats 1000000 in
theorem sameTexts_yes (l : List ByteArray) (v v' : Value) (w : World) (h1 : RowOf 1 strCell w.heap.size w v l) (h2 : RowOf 1 strCell w.heap.size w v' l) :
    Calls Try.prog 36 #[v, v'] w fun e w' => e = .returned (.bool true) ∧ Below w.heap.size w w' := by
  obtain ⟨a, cap, rfl, hz, h1⟩ := h1
  obtain ⟨a', cap', rfl, _, h2⟩ := h2
  have hne : ((l.length : Int) != (l.length : Int)) = false := by simp
  go_enter Try.func36, Try.ntmps36
  go_wp2
  go_loopw [5] (fun i wr => ∃ (k : Nat), k ≤ l.length ∧ i = .int .i64 k ∧ Hid (∃ q, wr = w.drewN q)) (fun i _ => l.length - (intOf i).toNat)
  case atStart => exact ⟨0, Nat.zero_le _, rfl, (⟨0, rfl⟩ : ∃ q, w = w.drewN q)⟩
  case round =>
    obtain ⟨k, hk, rfl, HQ⟩ := hrel
    by_cases hlt : k < l.length
    · obtain ⟨p, hp⟩ : ∃ p, l[k]? = some p := ⟨_, List.getElem?_eq_getElem hlt⟩
      rcases h1 with h | ⟨b, off, rfl, hbn, hc⟩
      · subst h; simp at hlt
      rcases h2 with h | ⟨b', off', rfl, hbn', hc'⟩
      · subst h; simp at hlt
      have hcl : ∀ p, wr.cell? p = w.cell? p := fun p => by obtain ⟨q, hq⟩ := HQ.out; rw [hq]; simp
      have c0 := (hcl _).trans (hc k _ hp 0 (by omega))
      have d0 := (hcl _).trans (hc' k _ hp 0 (by omega))
      dsimp only [strCell] at c0 d0
      rw [Nat.add_zero, Nat.mul_one] at c0 d0
      clear hcl hc hc' hp
      go_wp2
      go_quiet (fail)
      go_wp2
      obtain ⟨q, hq⟩ := HQ.out
      exact ⟨⟨k + 1, by omega, by go_num, (⟨q + _, by rw [hq, World.drewN_drewN]⟩ : ∃ q, _ = w.drewN q)⟩, by simp [intOf]; omega⟩
    · go_wp2
      go_ret
      obtain ⟨q, hq⟩ := HQ.out
      exact ⟨rfl, by rw [hq]; exact below_drewN (Below.refl _ _) q⟩

def appN : ByteArray := ⟨#[97, 112, 112]⟩
def libN : ByteArray := ⟨#[108, 105, 98]⟩
theorem chk_pairG : chkGraph pairL = 0 := by kernel_rfl
theorem err_app : comeErr pairL appN = 0 := by kernel_rfl
theorem err_lib : comeErr pairL libN = 0 := by kernel_rfl
theorem next_need {i k : Nat} : Next nxNeed [appM, libM] i k ↔ i = 0 ∧ k = 1 := by
  have e00 : nxNeed appM appM = false := by kernel_rfl
  have e01 : nxNeed appM libM = true := by kernel_rfl
  have e1 : ∀ m, nxNeed libM m = false := fun m => by rfl
  constructor
  · rintro ⟨x, y, hx, hy, h⟩
    have hi : i = 0 ∨ i = 1 := by have := (List.getElem?_eq_some_iff.1 hx).1; simp at this; omega
    have hk : k = 0 ∨ k = 1 := by have := (List.getElem?_eq_some_iff.1 hy).1; simp at this; omega
    rcases hi with rfl | rfl
    · rcases hk with rfl | rfl
      · injection hx with hx
        injection hy with hy
        subst hx hy
        rw [e00] at h
        cases h
      · exact ⟨rfl, rfl⟩
    · injection hx with hx
      subst hx
      rw [e1] at h
      cases h
  · rintro ⟨rfl, rfl⟩
    exact ⟨appM, libM, rfl, rfl, e01⟩
theorem via_need {i k : Nat} : Via (Next nxNeed [appM, libM]) i k ↔ i = 0 ∧ k = 1 := by
  constructor
  · intro h
    exact h.walk (M := fun k => i = 0 ∧ k = 1) (fun _ e => next_need.1 e) (fun _ _ _ ih e => by have := next_need.1 e; omega)
  · exact fun h => .one (next_need.2 h)
theorem name_pair {f : Nat} (hf : f < 2) : nameAt [appM, libM] f = if f = 0 then appN else libN := by
  have : f = 0 ∨ f = 1 := by omega
  rcases this with rfl | rfl <;> rfl
theorem app_lib : appN ≠ libN := by
  intro h
  have := congrArg ByteArray.size h
  have h2 := congrArg (fun b : ByteArray => b.data.toList) h
  exact absurd h2 (by decide)
theorem come_app {ss : List ByteArray} (h : ComeRes nxNeed pairL appN ss) : ss = [libN] := by
  rcases h with ⟨h, _⟩ | ⟨_, f, hf, hn, hr, hm⟩
  · exact absurd err_app h
  have hf2 : f < 2 := hf
  rw [show pairL.map (·.mod) = [appM, libM] from rfl] at hn hm
  rw [name_pair hf2] at hn
  have h0 : f = 0 := by
    by_cases e : f = 0
    · exact e
    · rw [if_neg e] at hn; exact absurd hn.symm app_lib
  subst h0
  refine Rising.same hr (by simp [Rising]) (fun x => ?_)
  rw [hm]
  constructor
  · rintro ⟨k, hk, rfl⟩
    obtain ⟨_, rfl⟩ := via_need.1 hk
    simp [name_pair]
  · intro hx
    obtain rfl : x = libN := by simpa using hx
    exact ⟨1, via_need.2 ⟨rfl, rfl⟩, rfl⟩
theorem come_lib {ss : List ByteArray} (h : ComeRes nxUse pairL libN ss) : ss = [appN] := by
  rcases h with ⟨h, _⟩ | ⟨_, f, hf, hn, hr, hm⟩
  · exact absurd err_lib h
  have hf2 : f < 2 := hf
  rw [show pairL.map (·.mod) = [appM, libM] from rfl] at hn hm
  rw [name_pair hf2] at hn
  have h0 : f = 1 := by
    by_cases e : f = 0
    · rw [if_pos e] at hn; exact absurd hn app_lib
    · omega
  subst h0
  refine Rising.same hr (by simp [Rising]) (fun x => ?_)
  rw [hm]
  constructor
  · rintro ⟨k, hk, rfl⟩
    obtain ⟨rfl, _⟩ := via_need.1 (via_turn.1 hk)
    simp [name_pair]
  · intro hx
    obtain rfl : x = appN := by simpa using hx
    exact ⟨0, via_turn.2 (via_need.2 ⟨rfl, rfl⟩), rfl⟩
theorem ord_pair : ordOf pairL = ([libN, appN], 0) := by
  unfold ordOf
  rw [if_neg (by rw [chk_pairG]; exact fun h => h rfl)]
  have hr : risen pairL = [appM, libM] := by
    unfold risen
    refine List.mergeSort_of_pairwise ?_
    show List.Pairwise _ [appM, libM]
    rw [List.pairwise_cons]
    refine ⟨fun x hx => ?_, by simp⟩
    obtain rfl : x = libM := by simpa using hx
    show decide (appM.name.data.toList ≤ libM.name.data.toList) = true
    decide
  rw [hr]
  exact ordRes_some (by kernel_rfl)

end Go.Proofs.Ytaklbnabgcglhab

/- What must be in any case, of graphs. -/
namespace Go.Proofs.Ytaklbnabgcglhab
open Go.RowKit Go.PlainAid

set_option maxRecDepth 100000

theorem rowText (W : World) (l : List ByteArray) (hl : l.length ≤ 255) (n : Nat) (hn : n = l.length) : RowOf 1 strCell (W.alloc (.cells (l.flatMap strC).toArray 9)).heap.size (W.alloc (.cells (l.flatMap strC).toArray 9)) (.slice (some ⟨W.heap.size, 0, none⟩) n n) l := by
  subst hn
  exact rowOf_cells (C := strC) (cells := strCell) (sz := 1) (fun _ => rfl) strC_at (CellsAt.new W 9 _) l hl l.length rfl

set_option maxHeartbeats 4000000 in
theorem graphBegun_any (w : World) : Calls Try.prog 35 #[] w fun e w' => e = .returned (.bool true) ∧ Below w.heap.size w w' := by
  go_enter Try.func35, Try.ntmps35
  go_wp2_with fail
  refine (pair_any _).mono ?_
  rintro e w3 ⟨v3, l3, rfl, h3, p3, B3⟩
  have HF : Hid (Calls Try.prog 27 #[v3, .string ⟨#[97, 112, 112]⟩] w3 fun e w' => _) := needs_any l3 v3 appN w3 p3 (pair_fits h3)
  rw [h3, err_app] at HF
  obtain ⟨⟨a3, c3, rfl, _, _⟩, _⟩ := p3
  clear h3
  generalize l3.length = n3 at *
  go_wp2_with fail
  refine HF.out.mono ?_
  rintro e w4 ⟨⟨r4, ss, rfl, R4, hs⟩, b4⟩
  obtain rfl := come_app hs
  have B4 := B3.trans (b4.mono B3.size)
  clear HF b4 B3 hs
  obtain ⟨a4, c4, rfl, _⟩ := id R4
  go_wp2_with fail
  refine (pair_any _).mono ?_
  rintro e w5 ⟨v5, l5, rfl, h5, p5, b5⟩
  have B5 := B4.trans (b5.mono B4.size)
  have R5 := (R4.below b5).more b5.size
  have HF : Hid (Calls Try.prog 28 #[v5, .string ⟨#[108, 105, 98]⟩] w5 fun e w' => _) := users_any l5 v5 libN w5 p5 (pair_fits h5)
  rw [h5, err_lib] at HF
  obtain ⟨⟨a5, c5, rfl, _, _⟩, _⟩ := p5
  clear B4 b5 h5 R4
  generalize l5.length = n5 at *
  go_wp2_with fail
  refine HF.out.mono ?_
  rintro e w6 ⟨⟨r6, ss, rfl, U6, hs⟩, b6⟩
  obtain rfl := come_lib hs
  have B6 := B5.trans (b6.mono B5.size)
  have R6 := (R5.below b6).more b6.size
  clear HF b6 B5 R5 hs
  obtain ⟨a6, c6, rfl, _⟩ := id U6
  go_wp2_with fail
  refine (pair_any _).mono ?_
  rintro e w7 ⟨v7, l7, rfl, h7, p7, b7⟩
  have B7 := B6.trans (b7.mono B6.size)
  have R7 := (R6.below b7).more b7.size
  have U7 := (U6.below b7).more b7.size
  have HF : Hid (Calls Try.prog 29 #[v7] w7 fun e w' => _) := order_any l7 v7 w7 p7 (pair_fits h7)
  rw [h7, ord_pair] at HF
  obtain ⟨⟨a7, c7, rfl, _, _⟩, _⟩ := p7
  clear B6 b7 h7 R6 U6
  generalize l7.length = n7 at *
  go_wp2_with fail
  refine HF.out.mono ?_
  rintro e w8 ⟨⟨r8, rfl, O8, _⟩, b8⟩
  have B8 := B7.trans (b8.mono B7.size)
  have R8 := (R7.below b8).more b8.size
  have U8 := (U7.below b8).more b8.size
  clear HF b8 B7 R7 U7
  obtain ⟨a8, c8, rfl, _⟩ := id O8
  have T1 := rowText w8 [libN] (by decide) 1 rfl
  have b9 : Below w8.heap.size w8 (w8.alloc (.cells #[.string ⟨#[108, 105, 98]⟩] 9)) := (Below.refl _ _).alloc (Nat.le_refl _) _
  have HQ : Hid (Calls Try.prog 36 _ _ fun e w' => _) := sameTexts_yes _ _ _ _ ((R8.below b9).more b9.size) T1
  have HB9 : Hid (Below w8.heap.size w8 (w8.alloc (.cells #[.string ⟨#[108, 105, 98]⟩] 9))) := b9
  have HU8 : Hid (RowOf 1 strCell w8.heap.size w8 (.slice a6 [appN].length c6) [appN]) := U8
  have HO8 : Hid (RowOf 1 strCell w8.heap.size w8 (.slice a8 [libN, appN].length c8) [libN, appN]) := O8
  clear b9 R8 T1 U8 O8
  dsimp only [List.length_cons, List.length_nil] at *
  go_wp2_with fail
  refine HQ.out.mono ?_
  rintro e w9 ⟨rfl, b9⟩
  have B9 := B8.trans ((HB9.out.trans (b9.mono HB9.out.size)).mono B8.size)
  have U9 := ((HU8.out.below HB9.out).more HB9.out.size)
  have O9 := ((HO8.out.below HB9.out).more HB9.out.size)
  have U9 := (U9.below b9).more b9.size
  have O9 := (O9.below b9).more b9.size
  clear HQ HB9 b9 HU8 HO8 B8
  have T1 := rowText w9 [appN] (by decide) 1 rfl
  have b9 : Below w9.heap.size w9 (w9.alloc (.cells #[.string ⟨#[97, 112, 112]⟩] 9)) := (Below.refl _ _).alloc (Nat.le_refl _) _
  have HQ : Hid (Calls Try.prog 36 _ _ fun e w' => _) := sameTexts_yes _ _ _ _ ((U9.below b9).more b9.size) T1
  have HB9 : Hid (Below w9.heap.size w9 (w9.alloc (.cells #[.string ⟨#[97, 112, 112]⟩] 9))) := b9
  have HO9 : Hid (RowOf 1 strCell w9.heap.size w9 (.slice a8 2 c8) [libN, appN]) := O9
  clear b9 T1 U9 O9
  go_wp2_with fail
  refine HQ.out.mono ?_
  rintro e wa ⟨rfl, ba⟩
  have BA := B9.trans ((HB9.out.trans (ba.mono HB9.out.size)).mono B9.size)
  have OA := ((HO9.out.below HB9.out).more HB9.out.size)
  have OA := (OA.below ba).more ba.size
  clear HQ HB9 ba HO9 B9
  have T1 := rowText wa [libN, appN] (by decide) 2 rfl
  have bb : Below wa.heap.size wa (wa.alloc (.cells #[.string ⟨#[108, 105, 98]⟩, .string ⟨#[97, 112, 112]⟩] 9)) := (Below.refl _ _).alloc (Nat.le_refl _) _
  have HQ : Hid (Calls Try.prog 36 _ _ fun e w' => _) := sameTexts_yes _ _ _ _ ((OA.below bb).more bb.size) T1
  have HB9 : Hid (Below wa.heap.size wa (wa.alloc (.cells #[.string ⟨#[108, 105, 98]⟩, .string ⟨#[97, 112, 112]⟩] 9))) := bb
  clear bb T1 OA
  go_wp2_with fail
  refine HQ.out.mono ?_
  rintro e wb ⟨rfl, bb⟩
  have BB := BA.trans ((HB9.out.trans (bb.mono HB9.out.size)).mono BA.size)
  clear HQ HB9 bb BA
  go_wp2
  go_ret
  exact ⟨rfl, BB⟩

end Go.Proofs.Ytaklbnabgcglhab

/- What is come to, both ways. -/
namespace Go.Proofs.Ytaklbnabgcglhab
open Go.RowKit Go.PlainAid

theorem comeErr_zero {L : List Plc} {name : ByteArray} (h : comeErr L name = 0) : chkGraph L = 0 := by
  unfold comeErr at h
  split at h
  · exact absurd h ‹_›
  · omega
theorem chk_nodup {L : List Plc} (h : chkGraph L = 0) : ((L.map (·.mod)).map (·.name)).Nodup := by
  have := (chkGraph_zero.1 h).2.2
  rw [List.map_map]
  exact this
theorem ComeRes.err {nx : Mod → Mod → Bool} {L : List Plc} {name : ByteArray} {ss : List ByteArray} (h : ComeRes nx L name ss) (he : comeErr L name ≠ 0) : ss = [] := by
  rcases h with ⟨_, h⟩ | ⟨h, _⟩
  · exact h
  · exact absurd h he
theorem ComeRes.ok {nx : Mod → Mod → Bool} {L : List Plc} {name : ByteArray} {ss : List ByteArray} (h : ComeRes nx L name ss) (he : comeErr L name = 0) : ∃ f, f < L.length ∧ nameAt (L.map (·.mod)) f = name ∧ Comes nx (L.map (·.mod)) f ss := by
  rcases h with ⟨h, _⟩ | ⟨_, h⟩
  · exact absurd he h
  · exact h
theorem Comes.has {nx : Mod → Mod → Bool} {Ms : List Mod} (hd : (Ms.map (·.name)).Nodup) {f k : Nat} {ss : List ByteArray} (h : Comes nx Ms f ss) (hk : k < Ms.length) : nameAt Ms k ∈ ss ↔ Via (Next nx Ms) f k := by
  rw [h.2]
  constructor
  · rintro ⟨j, hj, he⟩
    rw [← nameAt_inj hd hj.lt_of.2 hk he]
    exact hj
  · exact fun hv => ⟨k, hv, rfl⟩
theorem turned_has {L : List Plc} {a b : ByteArray} {xs ys : List ByteArray} (ha : comeErr L a = 0) (hb : comeErr L b = 0) (hx : ComeRes nxNeed L a xs) (hy : ComeRes nxUse L b ys) : (xs.any fun y => y == b) = (ys.any fun y => y == a) := by
  have hd := chk_nodup (comeErr_zero ha)
  obtain ⟨fa, la, na, ca⟩ := hx.ok ha
  obtain ⟨fb, lb, nb, cb⟩ := hy.ok hb
  have la' : fa < (L.map (·.mod)).length := by simpa using la
  have lb' : fb < (L.map (·.mod)).length := by simpa using lb
  rw [Bool.eq_iff_iff, any_mem, any_mem, ← na, ← nb, ca.has hd lb', cb.has hd la', via_turn]
theorem turned_more {L : List Plc} {a b : ByteArray} {xs zs : List ByteArray} (ha : comeErr L a = 0) (hb : comeErr L b = 0) (hx : ComeRes nxNeed L a xs) (hz : ComeRes nxNeed L b zs) (h : (xs.any fun y => y == b) = true) : ∀ z ∈ zs, (xs.any fun y => y == z) = true := by
  have hd := chk_nodup (comeErr_zero ha)
  obtain ⟨fa, la, na, ca⟩ := hx.ok ha
  obtain ⟨fb, lb, nb, cb⟩ := hz.ok hb
  have lb' : fb < (L.map (·.mod)).length := by simpa using lb
  rw [any_mem, ← nb, ca.has hd lb'] at h
  intro z hz2
  rw [any_mem]
  obtain ⟨k, hk, rfl⟩ := (cb.2 z).1 hz2
  exact (ca.has hd hk.lt_of.2).2 (h.trans hk)

end Go.Proofs.Ytaklbnabgcglhab

/- What an order is. -/
namespace Go.Proofs.Ytaklbnabgcglhab
open Go.RowKit Go.PlainAid

theorem ord_err {L : List Plc} (h : (ordOf L).2 ≠ 0) : (ordOf L).1 = [] := by
  rcases ordOf_cases L with ⟨_, e⟩ | ⟨_, e⟩
  · rw [e]
  · rw [e] at h ⊢
    unfold ordRes at h ⊢
    split
    · rfl
    · rename_i c hc
      rw [hc] at h
      exact absurd rfl h
theorem ord_ok {L : List Plc} (h : (ordOf L).2 = 0) : chkGraph L = 0 ∧ orderFrom (risen L) (risen L).length [] = some (ordOf L).1 := by
  rcases ordOf_cases L with ⟨h1, e⟩ | ⟨h1, e⟩
  · rw [e] at h
    exact absurd h h1
  · refine ⟨h1, ?_⟩
    rw [e] at h ⊢
    unfold ordRes at h ⊢
    split
    · rename_i hc
      rw [hc] at h
      exact absurd h (by decide)
    · rename_i c hc
      exact hc
theorem comeErr_of {L : List Plc} {name : ByteArray} (h0 : chkGraph L = 0) {m : Mod} (hm : m ∈ L.map (·.mod)) (hn : m.name = name) : comeErr L name = 0 := by
  unfold comeErr
  rw [if_neg (by omega), if_pos]
  obtain ⟨p, hp, rfl⟩ := List.mem_map.1 hm
  exact List.any_eq_true.2 ⟨p, hp, (Go.MapKept.bytes_beq _ _).2 hn⟩
theorem ord_facts {L : List Plc} (h : (ordOf L).2 = 0) : (ordOf L).1.length = L.length ∧ ∀ (i : Nat) (x : ByteArray), (ordOf L).1[i]? = some x → comeErr L x = 0 ∧ (((ordOf L).1.take i).any fun y => y == x) = false ∧ ∀ ns, ComeRes nxNeed L x ns → ∀ z ∈ ns, (((ordOf L).1.take i).any fun y => y == z) = true := by
  obtain ⟨h0, h1⟩ := ord_ok h
  obtain ⟨h2, h3, _⟩ := order_stands .nil h1
  generalize (ordOf L).1 = c at *
  have hd := chk_nodup h0
  refine ⟨by rw [h3, (risen_perm L).length_eq]; simp, fun i x hx => ?_⟩
  obtain ⟨m, hm, hmx, hnot, _⟩ := h2.at i x hx
  have hm2 := (risen_perm L).mem_iff.1 hm
  have he := comeErr_of h0 hm2 hmx
  refine ⟨he, ?_, fun ns hns z hz => ?_⟩
  · rw [← Bool.not_eq_true, any_mem]
    exact hnot
  · obtain ⟨f, hf, hfn, hc⟩ := hns.ok he
    obtain ⟨k, hk, rfl⟩ := (hc.2 z).1 hz
    rw [any_mem]
    exact h2.via (risen_perm L) hd hk i (by rw [hfn]; exact hx)

theorem RowOf.take {α : Type} {sz : Nat} {cells : α → Nat → Value} {n₀ : Nat} {W : World} {a : Option Addr} {n cap : Nat} {l : List α} (h : RowOf sz cells n₀ W (.slice a n cap) l) (k : Nat) (hk : k ≤ l.length) : RowOf sz cells n₀ W (.slice a k cap) (l.take k) := by
  obtain ⟨a', cap', e, hm, h⟩ := h
  injection e with e1 e2 e3
  subst e1 e3
  refine ⟨a, cap, by rw [List.length_take, Nat.min_eq_left hk], by rw [List.length_take]; omega, ?_⟩
  rcases h with h | ⟨b, off, rfl, hb, hc⟩
  · exact .inl (by rw [h]; simp)
  · refine .inr ⟨b, off, rfl, hb, fun j x hj i hi => hc j x ?_ i hi⟩
    rw [List.getElem?_take] at hj
    split at hj
    · exact hj
    · cases hj

end Go.Proofs.Ytaklbnabgcglhab
