/- The contracts of the document's SameTexts, SameFlash, CheckFlash, AllOf, CheckDeed, CheckDeeds. -/
import Derived.Test.YtnomapbiklfciafFlE
import Derived.Test.YtnomapbiklfciafBtw
import Derived.Lib.QuietBelow
import Derived.BigQuiet
namespace Go.Proofs.Ytnomapbiklfciaf
open Go.RowKit Go.PlainAid

set_option maxRecDepth 100000

def sameB : List ByteArray → List ByteArray → Bool
  | [], [] => true
  | x :: xs, y :: ys => x.toList == y.toList && sameB xs ys
  | _, _ => false
theorem toList_inj {x y : ByteArray} (h : x.toList = y.toList) : x = y := by
  rw [ByteArray.toList_eq, ByteArray.toList_eq] at h
  exact ByteArray.ext (Array.toList_inj.1 h)
theorem sameB_iff : ∀ (xs ys : List ByteArray), sameB xs ys = true ↔ xs = ys
  | [], [] => by simp [sameB]
  | [], y :: ys => by simp [sameB]
  | x :: xs, [] => by simp [sameB]
  | x :: xs, y :: ys => by
    simp only [sameB, Bool.and_eq_true, beq_iff_eq, sameB_iff xs ys, List.cons.injEq]
    constructor
    · rintro ⟨h1, h2⟩; exact ⟨toList_inj h1, h2⟩
    · rintro ⟨rfl, h2⟩; exact ⟨rfl, h2⟩
theorem sameB_length : ∀ {xs ys : List ByteArray}, xs.length ≠ ys.length → sameB xs ys = false := fun {xs ys} h => by
  cases hb : sameB xs ys with
  | false => rfl
  | true => exact absurd (by rw [(sameB_iff xs ys).1 hb]) h
theorem sameB_self (xs : List ByteArray) : sameB xs xs = true := (sameB_iff xs xs).2 rfl

set_option maxHeartbeats 2000000 in
theorem sameTexts_any (xs ys : List ByteArray) (v v' : Value) (w : World) (h1 : RowOf 1 strCell w.heap.size w v xs) (h2 : RowOf 1 strCell w.heap.size w v' ys) :
    Calls Try.prog 25 #[v, v'] w fun e w' => e = .returned (.bool (sameB xs ys)) ∧ Below w.heap.size w w' := by
  obtain ⟨a, cap, rfl, hz, h1⟩ := h1
  obtain ⟨a', cap', rfl, hz', h2⟩ := h2
  by_cases hl : xs.length = ys.length
  · have HL : Hid (xs.length = ys.length) := hl
    have HS0 : Hid (sameB xs ys = sameB (xs.drop 0) (ys.drop 0)) := rfl
    have hne : ((xs.length : Int) != (xs.length : Int)) = false := by simp
    rw [← hl]
    clear hl hz'
    go_enter Try.func25, Try.ntmps25
    go_wp2
    go_loopw [5] (fun i wr => ∃ (k : Nat), k ≤ xs.length ∧ i = .int .i64 k ∧ Hid (sameB xs ys = sameB (xs.drop k) (ys.drop k)) ∧ Hid (∃ q, wr = w.drewN q)) (fun i _ => xs.length - (intOf i).toNat)
    case atStart => exact ⟨0, Nat.zero_le _, rfl, HS0, (⟨0, rfl⟩ : ∃ q, w = w.drewN q)⟩
    case round =>
      obtain ⟨k, hk, rfl, HS, HQ⟩ := hrel
      clear HS0
      by_cases hlt : k < xs.length
      · obtain ⟨p, hp⟩ : ∃ p, xs[k]? = some p := ⟨_, List.getElem?_eq_getElem hlt⟩
        obtain ⟨q, hq⟩ : ∃ q, ys[k]? = some q := ⟨_, List.getElem?_eq_getElem (by have := HL.out; omega)⟩
        rcases h1 with h | ⟨b, off, rfl, hbn, hc⟩
        · subst h; simp at hlt
        rcases h2 with h | ⟨b', off', rfl, hbn', hc'⟩
        · subst h; simp at hq
        have hcl : ∀ p, wr.cell? p = w.cell? p := fun p => by obtain ⟨q, hq⟩ := HQ.out; rw [hq]; simp
        have c0 := (hcl _).trans (hc k _ hp 0 (by omega))
        have d0 := (hcl _).trans (hc' k _ hq 0 (by omega))
        dsimp only [strCell] at c0 d0
        rw [Nat.add_zero, Nat.mul_one] at c0 d0
        have HN : Hid (sameB xs ys = (p.toList == q.toList && sameB (xs.drop (k + 1)) (ys.drop (k + 1)))) := by
          show sameB xs ys = _
          rw [HS.out, drop_at hp, drop_at hq]; rfl
        clear hcl hc hc' hp hq HS
        by_cases hpq : p = q
        · subst hpq
          have HN2 : Hid (sameB xs ys = sameB (xs.drop (k + 1)) (ys.drop (k + 1))) := by
            show sameB xs ys = _
            rw [HN.out, BEq.rfl, Bool.true_and]
          clear HN
          go_wp2
          go_quiet (fail)
          go_wp2
          obtain ⟨q, hq⟩ := HQ.out
          exact ⟨⟨k + 1, by omega, by go_num, HN2, (⟨q + _, by rw [hq, World.drewN_drewN]⟩ : ∃ q, _ = w.drewN q)⟩, by simp [intOf]; omega⟩
        · have hb : (p.toList == q.toList) = false := beq_eq_false_iff_ne.2 fun h => hpq (toList_inj h)
          have hb2 : (p.toList != q.toList) = true := by rw [bne, hb]; rfl
          have HN2 : Hid (sameB xs ys = false) := by
            show sameB xs ys = _
            rw [HN.out, hb]; rfl
          clear HN hpq
          go_wp2
          go_quiet (fail)
          go_wp2
          go_ret
          obtain ⟨q, hq⟩ := HQ.out
          exact ⟨by rw [HN2.out]; rfl, by rw [hq]; exact below_drewN (below_drewN (Below.refl _ _) q) _⟩
      · obtain rfl : k = xs.length := by omega
        have HZ : Hid (sameB xs ys = true) := by
          show sameB xs ys = true
          rw [HS.out, List.drop_length, HL.out, List.drop_length]; rfl
        go_wp2
        go_ret
        obtain ⟨q, hq⟩ := HQ.out
        exact ⟨by rw [HZ.out]; rfl, by rw [hq]; exact below_drewN (Below.refl _ _) q⟩
  · have HZ : Hid (sameB xs ys = false) := sameB_length hl
    have hne : ((xs.length : Int) != (ys.length : Int)) = true := by rw [bne_iff_ne]; omega
    clear h1 h2
    generalize xs.length = n at *
    generalize ys.length = m at *
    clear hl
    go_enter Try.func25, Try.ntmps25
    go_wp2
    go_ret
    exact ⟨by rw [HZ.out]; rfl, Below.refl _ _⟩

set_option maxHeartbeats 1000000 in
theorem sameFlash_any (F G : List ByteArray) (v v' : Value) (w : World) (h1 : RowOf 1 strCell w.heap.size w v F) (h2 : RowOf 1 strCell w.heap.size w v' G) :
    Calls Try.prog 9 #[.agg #[v], .agg #[v']] w fun e w' => e = .returned (.bool (sameB F G)) ∧ Below w.heap.size w w' := by
  have HS : Hid (∀ W, Below w.heap.size w W → Calls Try.prog 25 #[v, v'] W fun e w' => e = .returned (.bool (sameB F G)) ∧ Below W.heap.size W w') := fun W hb => sameTexts_any F G v v' W ((h1.below hb).more hb.size) ((h2.below hb).more hb.size)
  obtain ⟨a, c, rfl, _, _⟩ := h1
  obtain ⟨a', c', rfl, _, _⟩ := h2
  generalize sameB F G = r at *
  generalize F.length = n at *
  generalize G.length = m at *
  have HB : Hid (Below w.heap.size w ((w.alloc (.cells #[.slice a n c] 24)).alloc (.cells #[.slice a' m c'] 24))) := ((Below.refl _ _).alloc (Nat.le_refl _) _).alloc (by simp) _
  go_enter Try.func9, Try.ntmps9
  go_wp2_with fail
  refine (HS.out _ HB.out).mono ?_
  rintro e w2 ⟨rfl, b2⟩
  go_wp2
  go_ret
  exact ⟨rfl, HB.out.trans (b2.mono HB.out.size)⟩

set_option maxHeartbeats 1000000 in
theorem rCheckFlash_any (F : List ByteArray) (v : Value) (w : World) (hF : RowOf 1 strCell w.heap.size w v F) :
    Calls Try.prog 13 #[.agg #[v]] w fun e w' => e = .returned (.int .i64 (chkFl F)) ∧ Below w.heap.size w w' := by
  obtain ⟨a, cap, rfl, hmx, hrow⟩ := hF
  have key := chkFl_cases F
  generalize chkFl F = cf at *
  have HB : Hid (Below w.heap.size w (w.alloc (.cells #[.slice a F.length cap] 24))) := (Below.refl _ _).alloc (Nat.le_refl _) _
  have HC1 : Hid (CellsAt (w.alloc (.cells #[.slice a F.length cap] 24)) w.heap.size 24 #[.slice a F.length cap]) := CellsAt.new _ _ _
  go_enter Try.func13, Try.ntmps13
  go_wp2_with fail
  refine (between_any _ _ _ _).mono ?_
  rintro e w2 ⟨rfl, rfl⟩
  rcases key with ⟨rfl, h⟩ | key
  · have g : betw (F.length : Int) 1 32 = false := betw_false (by omega)
    rw [g]
    clear g
    go_wp2
    go_ret
    exact ⟨rfl, HB.out⟩
  · have hl : 1 ≤ F.length ∧ F.length ≤ 32 := by rcases key with ⟨_, h1, h2, _⟩ | ⟨_, h1, h2, _⟩ <;> exact ⟨h1, h2⟩
    have g : betw (F.length : Int) 1 32 = true := betw_true (by omega) (by omega)
    rw [g]
    clear g
    have HK : Hid (cf = if F.all (fun b => decide (b.size = 128)) then 0 else 1) := by
      show cf = _
      rcases key with ⟨rfl, _, _, b, hb, hne⟩ | ⟨rfl, _, _, hall⟩
      · rw [if_neg]
        intro h
        exact hne (by simpa using List.all_eq_true.1 h b hb)
      · rw [if_pos]
        exact List.all_eq_true.2 fun b hb => by simpa using hall b hb
    clear key
    go_wp2
    go_loopw [3] (fun i wr => ∃ (k : Nat), k ≤ F.length ∧ i = .int .i64 k ∧ Hid (cf = if (F.drop k).all (fun b => decide (b.size = 128)) then 0 else 1) ∧ Hid (CellsAt wr w.heap.size 24 #[.slice a F.length cap]) ∧ Below w.heap.size w wr) (fun i _ => F.length - (intOf i).toNat)
    case atStart => exact ⟨0, Nat.zero_le _, rfl, HK, HC1, HB.out⟩
    case round =>
      obtain ⟨k, hk, rfl, HC, HCA, B⟩ := hrel
      clear HK HB HC1
      have g0 := HCA.out.cell 0
      simp at g0
      by_cases hlt : k < F.length
      · obtain ⟨x, hx⟩ : ∃ x, F[k]? = some x := ⟨_, List.getElem?_eq_getElem hlt⟩
        rcases hrow with h | ⟨b, off, rfl, hbn, hcells⟩
        · subst h; simp at hlt
        have c0 := (B.cell (p := ⟨b, off + k * 1 + 0, none⟩) hbn).trans (hcells k _ hx 0 (by omega))
        dsimp only [strCell] at c0
        rw [Nat.add_zero, Nat.mul_one] at c0
        have HR : Hid (cf = if decide (x.size = 128) && (F.drop (k + 1)).all (fun b => decide (b.size = 128)) then 0 else 1) := by
          show cf = _
          rw [HC.out, drop_at hx, List.all_cons]
        clear HC hcells hx
        by_cases hs : x.size = 128
        · have HR2 : Hid (cf = if (F.drop (k + 1)).all (fun b => decide (b.size = 128)) then 0 else 1) := by
            show cf = _
            rw [HR.out, decide_eq_true hs, Bool.true_and]
          clear HR
          go_wp2
          exact ⟨⟨k + 1, by omega, by go_num, HR2, HCA, B⟩, by simp [intOf]; omega⟩
        · have HR2 : Hid (cf = 1) := by
            show cf = _
            rw [HR.out, decide_eq_false hs]; rfl
          clear HR
          go_wp2
          go_ret
          exact ⟨by rw [HR2.out]; rfl, B⟩
      · obtain rfl : k = F.length := by omega
        have HZ : Hid (cf = 0) := by
          show cf = _
          rw [HC.out, List.drop_length]; rfl
        go_wp2
        go_ret
        exact ⟨by rw [HZ.out]; rfl, B⟩

theorem joinM_take_le : ∀ (F : List ByteArray) (k : Nat), (∀ b ∈ F, b.size = 128) → (joinM (F.take k)).length ≤ F.length * 128 := fun F k h => by
  rw [joinM_length (fun b hb => h b (List.mem_of_mem_take hb)), List.length_take]
  have : min k F.length ≤ F.length := Nat.min_le_right _ _
  omega
theorem joinM_step {F : List ByteArray} {k : Nat} {x : ByteArray} (hx : F[k]? = some x) : (⟨(joinM (F.take k)).toArray⟩ : ByteArray) ++ x = ⟨(joinM (F.take (k + 1))).toArray⟩ := by
  apply ByteArray.ext
  rw [ByteArray.data_append, List.take_add_one, hx]
  simp [joinM]

set_option maxHeartbeats 1000000 in
theorem rAllOf_any (F : List ByteArray) (v : Value) (w : World) (hF : RowOf 1 strCell w.heap.size w v F) (h0 : chkFl F = 0) :
    Calls Try.prog 16 #[.agg #[v]] w fun e w' => e = .returned (.string ⟨(joinM F).toArray⟩) ∧ Below w.heap.size w w' := by
  obtain ⟨a, cap, rfl, hmx, hrow⟩ := hF
  have hall : ∀ b ∈ F, b.size = 128 := by
    rcases chkFl_cases F with ⟨e, _⟩ | ⟨e, _⟩ | ⟨_, _, _, h⟩
    · rw [e] at h0; cases h0
    · rw [e] at h0; cases h0
    · exact h
  have hl := (joinM_bound h0).2.1
  have HTK : Hid (∀ k, (joinM (F.take k)).length ≤ F.length * 128) := fun k => joinM_take_le F k hall
  clear h0 hall
  have HB : Hid (Below w.heap.size w (w.alloc (.cells #[.slice a F.length cap] 24))) := (Below.refl _ _).alloc (Nat.le_refl _) _
  have HC1 : Hid (CellsAt (w.alloc (.cells #[.slice a F.length cap] 24)) w.heap.size 24 #[.slice a F.length cap]) := CellsAt.new _ _ _
  go_enter Try.func16, Try.ntmps16
  go_wp2
  go_loopw [3, 4] (fun s i wr => ∃ (k : Nat) (t : ByteArray), k ≤ F.length ∧ i = .int .i64 k ∧ s = .string t ∧ Hid (t = ⟨(joinM (F.take k)).toArray⟩) ∧ Hid (CellsAt wr w.heap.size 24 #[.slice a F.length cap]) ∧ Below w.heap.size w wr) (fun _ i _ => F.length - (intOf i).toNat)
  case atStart => exact ⟨0, ⟨#[]⟩, Nat.zero_le _, rfl, rfl, (by show (⟨#[]⟩ : ByteArray) = _; rw [List.take_zero]; rfl), HC1, HB.out⟩
  case round =>
    obtain ⟨k, t, hk, rfl, rfl, HT, HCA, B⟩ := hrel
    clear HB HC1
    have g0 := HCA.out.cell 0
    simp at g0
    by_cases hlt : k < F.length
    · obtain ⟨x, hx⟩ : ∃ x, F[k]? = some x := ⟨_, List.getElem?_eq_getElem hlt⟩
      rcases hrow with h | ⟨b, off, rfl, hbn, hcells⟩
      · subst h; simp at hlt
      have c0 := (B.cell (p := ⟨b, off + k * 1 + 0, none⟩) hbn).trans (hcells k _ hx 0 (by omega))
      dsimp only [strCell] at c0
      rw [Nat.add_zero, Nat.mul_one] at c0
      have HN : Hid (t ++ x = ⟨(joinM (F.take (k + 1))).toArray⟩) := by
        show t ++ x = _
        rw [HT.out]; exact joinM_step hx
      have hsz : t.size + x.size ≤ 4096 := by
        have h1 := congrArg ByteArray.size HN.out
        have h2 := HTK.out (k + 1)
        rw [ByteArray.size_append] at h1
        have h3 : (⟨(joinM (F.take (k + 1))).toArray⟩ : ByteArray).size = (joinM (F.take (k + 1))).length := by simp [ByteArray.size]
        omega
      have hbig : ¬ (9223372036854775807 < t.size + x.size) := by omega
      clear hx hcells
      go_wp2
      exact ⟨⟨k + 1, t ++ x, by omega, by go_num, rfl, HN, HCA, B⟩, by simp [intOf]; omega⟩
    · obtain rfl : k = F.length := by omega
      have HZ : Hid (t = ⟨(joinM F).toArray⟩) := by
        show t = _
        rw [HT.out, List.take_length]
      go_wp2
      go_ret
      exact ⟨by rw [← HZ.out]; rfl, B⟩

end Go.Proofs.Ytnomapbiklfciaf
