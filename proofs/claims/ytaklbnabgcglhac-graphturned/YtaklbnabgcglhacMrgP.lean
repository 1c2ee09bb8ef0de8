/- Texts that are laid together. -/
import Derived.Test.YtaklbnabgcglhacMrgO
import Derived.Test.YtaklbnabgcglhacMrgK

/- What must be in any case, of graphs. -/
namespace Go.Proofs.Ytaklbnabgcglhac
open Go.RowKit Go.PlainAid

set_option maxRecDepth 100000

theorem rowText (W : World) (l : List ByteArray) (hl : l.length ≤ 255) (n : Nat) (hn : n = l.length) : RowOf 1 strCell (W.alloc (.cells (l.flatMap strC).toArray 9)).heap.size (W.alloc (.cells (l.flatMap strC).toArray 9)) (.slice (some ⟨W.heap.size, 0, none⟩) n n) l := by
  subst hn
  exact rowOf_cells (C := strC) (cells := strCell) (sz := 1) (fun _ => rfl) strC_at (CellsAt.new W 9 _) l hl l.length rfl

set_option maxHeartbeats 4000000 in
theorem graphBegun_any (w : World) : Calls Try.prog 9 #[] w fun e w' => e = .returned (.bool true) ∧ Below w.heap.size w w' := by
  go_enter Try.func9, Try.ntmps9
  go_wp2_with fail
  refine (pair_any _).mono ?_
  rintro e w3 ⟨v3, l3, rfl, h3, p3, B3⟩
  have HF : Hid (Calls Try.prog 10 #[v3, .string ⟨#[97, 112, 112]⟩] w3 fun e w' => _) := needs_any l3 v3 appN w3 p3 (pair_fits h3)
  rw [h3, err_app] at HF
  obtain ⟨⟨a3, c3, rfl, _, _⟩, _⟩ := p3
  clear h3
  generalize l3.length = n3 at *
  go_wp2_with fail
  refine HF.out.mono ?_
  rintro e w4 ⟨⟨r4, ss, rfl, R4, hs⟩, b4⟩
  obtain rfl := come_app hs
  have B4 := B3.trans (b4.mono B3.size)
  clear HF b4 B3 hs
  obtain ⟨a4, c4, rfl, _⟩ := id R4
  go_wp2_with fail
  refine (pair_any _).mono ?_
  rintro e w5 ⟨v5, l5, rfl, h5, p5, b5⟩
  have B5 := B4.trans (b5.mono B4.size)
  have R5 := (R4.below b5).more b5.size
  have HF : Hid (Calls Try.prog 11 #[v5, .string ⟨#[108, 105, 98]⟩] w5 fun e w' => _) := users_any l5 v5 libN w5 p5 (pair_fits h5)
  rw [h5, err_lib] at HF
  obtain ⟨⟨a5, c5, rfl, _, _⟩, _⟩ := p5
  clear B4 b5 h5 R4
  generalize l5.length = n5 at *
  go_wp2_with fail
  refine HF.out.mono ?_
  rintro e w6 ⟨⟨r6, ss, rfl, U6, hs⟩, b6⟩
  obtain rfl := come_lib hs
  have B6 := B5.trans (b6.mono B5.size)
  have R6 := (R5.below b6).more b6.size
  clear HF b6 B5 R5 hs
  obtain ⟨a6, c6, rfl, _⟩ := id U6
  go_wp2_with fail
  refine (pair_any _).mono ?_
  rintro e w7 ⟨v7, l7, rfl, h7, p7, b7⟩
  have B7 := B6.trans (b7.mono B6.size)
  have R7 := (R6.below b7).more b7.size
  have U7 := (U6.below b7).more b7.size
  have HF : Hid (Calls Try.prog 13 #[v7] w7 fun e w' => _) := order_any l7 v7 w7 p7 (pair_fits h7)
  rw [h7, ord_pair] at HF
  obtain ⟨⟨a7, c7, rfl, _, _⟩, _⟩ := p7
  clear B6 b7 h7 R6 U6
  generalize l7.length = n7 at *
  go_wp2_with fail
  refine HF.out.mono ?_
  rintro e w8 ⟨⟨r8, rfl, O8, _⟩, b8⟩
  have B8 := B7.trans (b8.mono B7.size)
  have R8 := (R7.below b8).more b8.size
  have U8 := (U7.below b8).more b8.size
  clear HF b8 B7 R7 U7
  obtain ⟨a8, c8, rfl, _⟩ := id O8
  have T1 := rowText w8 [libN] (by decide) 1 rfl
  have b9 : Below w8.heap.size w8 (w8.alloc (.cells #[.string ⟨#[108, 105, 98]⟩] 9)) := (Below.refl _ _).alloc (Nat.le_refl _) _
  have HQ : Hid (Calls Try.prog 14 _ _ fun e w' => _) := sameTexts_yes _ _ _ _ ((R8.below b9).more b9.size) T1
  have HB9 : Hid (Below w8.heap.size w8 (w8.alloc (.cells #[.string ⟨#[108, 105, 98]⟩] 9))) := b9
  have HU8 : Hid (RowOf 1 strCell w8.heap.size w8 (.slice a6 [appN].length c6) [appN]) := U8
  have HO8 : Hid (RowOf 1 strCell w8.heap.size w8 (.slice a8 [libN, appN].length c8) [libN, appN]) := O8
  clear b9 R8 T1 U8 O8
  dsimp only [List.length_cons, List.length_nil] at *
  go_wp2_with fail
  refine HQ.out.mono ?_
  rintro e w9 ⟨rfl, b9⟩
  have B9 := B8.trans ((HB9.out.trans (b9.mono HB9.out.size)).mono B8.size)
  have U9 := ((HU8.out.below HB9.out).more HB9.out.size)
  have O9 := ((HO8.out.below HB9.out).more HB9.out.size)
  have U9 := (U9.below b9).more b9.size
  have O9 := (O9.below b9).more b9.size
  clear HQ HB9 b9 HU8 HO8 B8
  have T1 := rowText w9 [appN] (by decide) 1 rfl
  have b9 : Below w9.heap.size w9 (w9.alloc (.cells #[.string ⟨#[97, 112, 112]⟩] 9)) := (Below.refl _ _).alloc (Nat.le_refl _) _
  have HQ : Hid (Calls Try.prog 14 _ _ fun e w' => _) := sameTexts_yes _ _ _ _ ((U9.below b9).more b9.size) T1
  have HB9 : Hid (Below w9.heap.size w9 (w9.alloc (.cells #[.string ⟨#[97, 112, 112]⟩] 9))) := b9
  have HO9 : Hid (RowOf 1 strCell w9.heap.size w9 (.slice a8 2 c8) [libN, appN]) := O9
  clear b9 T1 U9 O9
  go_wp2_with fail
  refine HQ.out.mono ?_
  rintro e wa ⟨rfl, ba⟩
  have BA := B9.trans ((HB9.out.trans (ba.mono HB9.out.size)).mono B9.size)
  have OA := ((HO9.out.below HB9.out).more HB9.out.size)
  have OA := (OA.below ba).more ba.size
  clear HQ HB9 ba HO9 B9
  have T1 := rowText wa [libN, appN] (by decide) 2 rfl
  have bb : Below wa.heap.size wa (wa.alloc (.cells #[.string ⟨#[108, 105, 98]⟩, .string ⟨#[97, 112, 112]⟩] 9)) := (Below.refl _ _).alloc (Nat.le_refl _) _
  have HQ : Hid (Calls Try.prog 14 _ _ fun e w' => _) := sameTexts_yes _ _ _ _ ((OA.below bb).more bb.size) T1
  have HB9 : Hid (Below wa.heap.size wa (wa.alloc (.cells #[.string ⟨#[108, 105, 98]⟩, .string ⟨#[97, 112, 112]⟩] 9))) := bb
  clear bb T1 OA
  go_wp2_with fail
  refine HQ.out.mono ?_
  rintro e wb ⟨rfl, bb⟩
  have BB := BA.trans ((HB9.out.trans (bb.mono HB9.out.size)).mono BA.size)
  clear HQ HB9 bb BA
  go_wp2
  go_ret
  exact ⟨rfl, BB⟩

end Go.Proofs.Ytaklbnabgcglhac

/- What is come to, both ways. -/
namespace Go.Proofs.Ytaklbnabgcglhac
open Go.RowKit Go.PlainAid

theorem comeErr_zero {L : List Plc} {name : ByteArray} (h : comeErr L name = 0) : chkGraph L = 0 := by
  unfold comeErr at h
  split at h
  · exact absurd h ‹_›
  · omega
theorem chk_nodup {L : List Plc} (h : chkGraph L = 0) : ((L.map (·.mod)).map (·.name)).Nodup := by
  have := (chkGraph_zero.1 h).2.2
  rw [List.map_map]
  exact this
theorem ComeRes.err {nx : Mod → Mod → Bool} {L : List Plc} {name : ByteArray} {ss : List ByteArray} (h : ComeRes nx L name ss) (he : comeErr L name ≠ 0) : ss = [] := by
  rcases h with ⟨_, h⟩ | ⟨h, _⟩
  · exact h
  · exact absurd h he
theorem ComeRes.ok {nx : Mod → Mod → Bool} {L : List Plc} {name : ByteArray} {ss : List ByteArray} (h : ComeRes nx L name ss) (he : comeErr L name = 0) : ∃ f, f < L.length ∧ nameAt (L.map (·.mod)) f = name ∧ Comes nx (L.map (·.mod)) f ss := by
  rcases h with ⟨h, _⟩ | ⟨_, h⟩
  · exact absurd he h
  · exact h
theorem Comes.has {nx : Mod → Mod → Bool} {Ms : List Mod} (hd : (Ms.map (·.name)).Nodup) {f k : Nat} {ss : List ByteArray} (h : Comes nx Ms f ss) (hk : k < Ms.length) : nameAt Ms k ∈ ss ↔ Via (Next nx Ms) f k := by
  rw [h.2]
  constructor
  · rintro ⟨j, hj, he⟩
    rw [← nameAt_inj hd hj.lt_of.2 hk he]
    exact hj
  · exact fun hv => ⟨k, hv, rfl⟩
theorem turned_has {L : List Plc} {a b : ByteArray} {xs ys : List ByteArray} (ha : comeErr L a = 0) (hb : comeErr L b = 0) (hx : ComeRes nxNeed L a xs) (hy : ComeRes nxUse L b ys) : (xs.any fun y => y == b) = (ys.any fun y => y == a) := by
  have hd := chk_nodup (comeErr_zero ha)
  obtain ⟨fa, la, na, ca⟩ := hx.ok ha
  obtain ⟨fb, lb, nb, cb⟩ := hy.ok hb
  have la' : fa < (L.map (·.mod)).length := by simpa using la
  have lb' : fb < (L.map (·.mod)).length := by simpa using lb
  rw [Bool.eq_iff_iff, any_mem, any_mem, ← na, ← nb, ca.has hd lb', cb.has hd la', via_turn]
theorem turned_more {L : List Plc} {a b : ByteArray} {xs zs : List ByteArray} (ha : comeErr L a = 0) (hb : comeErr L b = 0) (hx : ComeRes nxNeed L a xs) (hz : ComeRes nxNeed L b zs) (h : (xs.any fun y => y == b) = true) : ∀ z ∈ zs, (xs.any fun y => y == z) = true := by
  have hd := chk_nodup (comeErr_zero ha)
  obtain ⟨fa, la, na, ca⟩ := hx.ok ha
  obtain ⟨fb, lb, nb, cb⟩ := hz.ok hb
  have lb' : fb < (L.map (·.mod)).length := by simpa using lb
  rw [any_mem, ← nb, ca.has hd lb'] at h
  intro z hz2
  rw [any_mem]
  obtain ⟨k, hk, rfl⟩ := (cb.2 z).1 hz2
  exact (ca.has hd hk.lt_of.2).2 (h.trans hk)

end Go.Proofs.Ytaklbnabgcglhac

/- The statements' has, which leaves all as it was. -/
namespace Go.Proofs.Ytaklbnabgcglhac
open Go.RowKit Go.PlainAid

set_option maxRecDepth 100000

set_option maxHeartbeats 1000000 in
theorem has_same (l : List ByteArray) (v : Value) (s : ByteArray) (w : World) (h1 : RowOf 1 strCell w.heap.size w v l) :
    Calls Try.prog 12 #[v, .string s] w fun e w' => e = .returned (.bool (l.any fun y => y == s)) ∧ w' = w := by
  obtain ⟨a, cap, rfl, hz, h1⟩ := h1
  have HC0 : Hid ((l.any fun y => y == s) = ((l.drop 0).any fun y => y == s)) := (rfl : _ = _)
  generalize (l.any fun y => y == s) = R at *
  go_enter Try.func12, Try.ntmps12
  go_wp2
  go_loopw [5] (fun i wr => ∃ (k : Nat), k ≤ l.length ∧ i = .int .i64 k ∧ Hid (R = ((l.drop k).any fun y => y == s)) ∧ Hid (wr = w)) (fun i _ => l.length - (intOf i).toNat)
  case atStart => exact ⟨0, Nat.zero_le _, rfl, HC0.out, (rfl : w = w)⟩
  case round =>
    obtain ⟨k, hk, rfl, HC, HW⟩ := hrel
    clear HC0
    by_cases hlt : k < l.length
    · obtain ⟨p, hp⟩ : ∃ p, l[k]? = some p := ⟨_, List.getElem?_eq_getElem hlt⟩
      rcases h1 with h | ⟨b, off, rfl, hbn, hc⟩
      · subst h; simp at hlt
      have c0 := hc k _ hp 0 (by omega)
      rw [← HW.out] at c0
      dsimp only [strCell] at c0
      rw [Nat.add_zero, Nat.mul_one] at c0
      have HR : Hid (R = ((p.toList == s.toList) || (l.drop (k + 1)).any fun y => y == s)) := by
        show R = _
        rw [HC.out, drop_at hp, List.any_cons, ← toList_beq2]
      clear hc hp HC
      cases ht : (p.toList == s.toList)
      · rw [ht] at HR
        have HR2 : Hid (R = (l.drop (k + 1)).any fun y => y == s) := by
          show R = _
          rw [HR.out, Bool.false_or]
        clear HR
        go_wp2
        exact ⟨⟨k + 1, by omega, by go_num, HR2.out, HW.out⟩, by simp [intOf]; omega⟩
      · rw [ht] at HR
        have HR2 : Hid (R = true) := by
          show R = _
          rw [HR.out, Bool.true_or]
        clear HR
        go_wp2
        go_ret
        exact ⟨by rw [HR2.out]; rfl, HW.out⟩
    · have HR2 : Hid (R = false) := by
        show _ = _
        rw [HC.out, List.drop_of_length_le (by omega)]; rfl
      go_wp2
      go_ret
      exact ⟨by rw [HR2.out]; rfl, HW.out⟩
theorem has_any (l : List ByteArray) (v : Value) (s : ByteArray) (w : World) (h1 : RowOf 1 strCell w.heap.size w v l) :
    Calls Try.prog 12 #[v, .string s] w fun e w' => e = .returned (.bool (l.any fun y => y == s)) ∧ Below w.heap.size w w' :=
  (has_same l v s w h1).mono fun _ _ ⟨he, hw⟩ => ⟨he, by rw [hw]; exact Below.refl _ _⟩

end Go.Proofs.Ytaklbnabgcglhac
