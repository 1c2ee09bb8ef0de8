/- Texts that are laid together. -/
import Derived.Test.YthmohjgdcjafkagMrgT
import Derived.Test.YthmohjgdcjafkagMrgJ
import Derived.Deep.Upon
import Derived.Deep.Cut
import Derived.Deep.CutRange
import Derived.Deep.LoopGhost
import Derived.Test.YthmohjgdcjafkagMrgC
import Derived.ProofKit
import Derived.OpenShut
import Derived.ShutString
import Derived.ChangeOld
import Derived.SizedLaws
import Derived.Below
import Derived.Carry
import Derived.Deep.Slices

/- Records that last: a crash, as data; what the law JournalOpens asks of it. -/
namespace Go.Proofs.Ythmohjgdcjafkag
open Go.RowKit Go.PlainAid Go.Lib

set_option maxRecDepth 100000

section
variable {P : Program} {ops : Array Oper} {Q : Exit → Act → World → Prop}
/-- Nothing is appended. -/
theorem wpList_append_none {rest : List Oper} {o : Oper} {a : Act} {w : World} (hgd : o.guard = none) (s x : Operand) (t : TypeId)
    (ho : o.op = .call { callee := .builtin .append, args := #[s, x], argTypes := #[t, t] })
    (e : TypeId) (i : TypeInfo) (ht : P.underlying t = some (.slice e)) (hi : P.info? e = some i)
    (base : Option Addr) (n c : Nat) (hs : a.eval s = .slice base n c) (hle : n ≤ c) (c' : Nat) (hx : a.eval x = .slice none 0 c')
    (h : wpList P ops Q rest (a.put o.dst (.slice base n c)) w) : wpList P ops Q (o :: rest) a w :=
  wpList_plain hgd fun K hK => by
    have hr := run_append_nothing (P := P) w t t o.type e i ht hi base n c hle (.slice none 0 c') (Src.ofNil _ ht c')
    unfold Oper.wp execOp
    simp only [ho, resolve, invoke, builtin, Sem.run_bind, Sem.run_pure, Result.andThen_ok, List.map_toArray, List.map_cons, List.map_nil, hs, hx, hr]
    exact hK _ _ h
end

section
variable {P : Program} {ops : Array Oper} {Q : Exit → Act → World → Prop} {md : Region.Mode} {S : World → Prop}
/-- A guarded operation that only reads, whose guard is met, may come up at once. -/
theorem wpL_take_g (i : Nat) {x : Nat} (d : Nat) (v : Value) {oi : Oper} {fuel : Nat} {listed : Array Bool} {tm : Array Value} {df : List Deferred} {w : World} (hi : ops[i]? = some oi)
    (hb : (Region.noSelect ops && (Region.free md ops listed i && ((Region.ready md ops listed).contains i && (closedB md ops listed && (coversB md ops x && decide (i < x)))))) = true)
    (hQ : ∀ c a w, Q (.panic c) (a.put oi.dst v) w → Q (.panic c) a w) (hS : S w) (hd : oi.dst = some d) (hg : Region.wanted oi (yielded ops tm) = true) (hy : ∀ w, S w → (execOp (Act.eval ⟨tm, df⟩) oi).run P w = .ok (.value v) w)
    (h : wpL P md ops Q S x fuel (listed.setIfInBounds i true) ⟨tm.setIfInBounds d v, df⟩ w) : wpL P md ops Q S x (fuel + 1) listed ⟨tm, df⟩ w := by
  simp only [Bool.and_eq_true, decide_eq_true_eq] at hb
  obtain ⟨h1, h2, h3, h4, h5, h6⟩ := hb
  refine wpL_first hi (Region.noSelect_spec h1) hQ (coversB_spec h5) h6 fuel listed ⟨tm, df⟩ w (Region.free_spec hi h2) (closedB_spec h4) (by simpa using h3) (.inl ⟨hg, hy⟩) hS ?_
  rw [hd]
  exact h
end

theorem take_right {F : List ByteArray} {l : List Deed} (h : chkDeeds F l = 0) (k : Nat) : chkDeeds F (l.take k) = 0 := by
  have := chkDs_more (F.length * 128) (l.take k) (l.drop k) (chkFl F)
  rw [List.take_append_drop] at this
  unfold chkDeeds at h ⊢
  rw [h] at this
  exact (chkDs_zero this.symm).1

/-- What is there behind a crash. -/
def Crash (n : Nat) (recs : List ByteArray) (s : ByteArray) (q : Nat) (all : Bool) (Y : List ByteArray) : Prop :=
  GoodF n Y ∧ ∃ q', q' ≤ q + 3 + s.size ∧ (lookB ⟨(joinM Y).toArray⟩ = (recs, q', 0) ∧ all = false ∨ lookB ⟨(joinM Y).toArray⟩ = (recs ++ [s], q', 0))
theorem crash_done {n : Nat} {G recs : List ByteArray} {s : ByteArray} {q : Nat} (hG : GoodF n G) (h0 : 1 ≤ s.size) (h8 : s.size ≤ 800) (hl : lookB ⟨(joinM G).toArray⟩ = (recs, q, 0)) (hr : q + 3 + s.size ≤ n * 128) (k : Nat) (hk : k ≤ 4 + s.size) : Crash n recs s q (decide (k = 4 + s.size)) (doneAll G ((deedsOf q s).take k)) := by
  obtain ⟨g, e⟩ := stage hG h0 h8 hr (rest_free hl) k hk
  refine ⟨g, ?_⟩
  by_cases h : k = 4 + s.size
  · refine ⟨q + 3 + s.size, Nat.le_refl _, .inr ?_⟩
    rw [List.take_of_length_le (by rw [deedsOf_length]; omega)]
    exact (append_there hG h0 h8 hl hr).2.1
  · obtain ⟨q', h1, h2⟩ := crash_there hG h0 h8 hl hr k (by omega) g (.inl fun j => by rw [e]; unfold stL; rw [List.getElem?_mapIdx])
    exact ⟨q', h2, h1.imp (fun h1 => ⟨h1, decide_eq_false h⟩) id⟩
theorem crash_torn {n : Nat} {G recs : List ByteArray} {s : ByteArray} {q : Nat} (hG : GoodF n G) (h0 : 1 ≤ s.size) (h8 : s.size ≤ 800) (hl : lookB ⟨(joinM G).toArray⟩ = (recs, q, 0)) (hr : q + 3 + s.size ≤ n * 128) (k : Nat) (hk : k < 4 + s.size) (p : ByteArray) : Crash n recs s q false (tornB (doneAll G ((deedsOf q s).take k)) (deedK q s k) p) := by
  obtain ⟨g, e⟩ := stage_torn hG h0 h8 hr (rest_free hl) k hk p
  refine ⟨g, ?_⟩
  obtain ⟨x, hx⟩ := torn_at q s k p (joinM G)
  obtain ⟨q', h1, h2⟩ := crash_there hG h0 h8 hl hr k (by omega) g (.inr ⟨x, fun j => by rw [e]; exact hx j⟩)
  exact ⟨q', h2, h1.imp (fun h1 => ⟨h1, rfl⟩) id⟩

/-- What is there, round by round. -/
def OInv (n : Nat) (G recs : List ByteArray) (need : Nat) : Prop := ∃ q, GoodF n G ∧ lookB ⟨(joinM G).toArray⟩ = (recs, q, 0) ∧ q + 256 ≤ need
theorem OInv.start (n : Nat) (h1 : 3 ≤ n) (h2 : n ≤ 32) : OInv n (newRes (n : Int)) [] 256 := ⟨0, (newRes_ff n (by omega) h2).2, look_new n h1 h2, by simp⟩
theorem OInv.next {n : Nat} {G recs : List ByteArray} {need : Nat} (h : OInv n G recs need) {s : ByteArray} (h0 : 1 ≤ s.size) (h8 : s.size ≤ 800) :
    (∃ L : List Deed, ∃ dk : Nat → Deed, L.length = s.size + 4 ∧ appRes G s = (doneAll G L, L, 0) ∧ chkDeeds G L = 0 ∧ doneAll G L = doRes G L ∧ (∀ k, k < L.length → L[k]? = some (dk k) ∧ chkDeed (n * 128) (dk k) = 0) ∧
      (∀ k, k ≤ L.length → chkDeeds G (L.take k) = 0 ∧ GoodF n (doneAll G (L.take k)) ∧ ∃ recs', openRes (doneAll G (L.take k)) = (recs', 0) ∧ (recs' = recs ∧ k < L.length ∨ recs' = recs ++ [s]) ∧ OInv n (doneAll G (L.take k)) recs' (need + (s.size + 8))) ∧
      (∀ k p, k < L.length → GoodF n (tornB (doneAll G (L.take k)) (dk k) p) ∧ ∃ recs', openRes (tornB (doneAll G (L.take k)) (dk k) p) = (recs', 0) ∧ (recs' = recs ∨ recs' = recs ++ [s]) ∧ OInv n (tornB (doneAll G (L.take k)) (dk k) p) recs' (need + (s.size + 8)))) ∨
    ((appRes G s).1 = [] ∧ (appRes G s).2.1 = [] ∧ (appRes G s).2.2 = 8 ∧ n * 128 < need + (s.size + 8)) := by
  obtain ⟨q, hG, hl, hn⟩ := h
  have hz : (⟨(joinM G).toArray⟩ : ByteArray).size = n * 128 := by rw [size_of_join, joinM_length hG.2.2.2, hG.1]
  by_cases a2 : n * 128 < q + (3 + s.size)
  · right
    have hp : placeRes ⟨(joinM G).toArray⟩ s = (0, 8) := by
      unfold placeRes
      rw [if_neg (by omega), if_neg (by omega), hl, if_neg (by simp), if_pos (by dsimp only; omega)]
    unfold appRes
    rw [if_neg (by rw [hG.chk]; decide), hp, if_pos (by simp)]
    exact ⟨rfl, rfl, rfl, by omega⟩
  · left
    obtain ⟨g1, g2, g3⟩ := append_there hG (s := s) h0 h8 hl (by omega)
    refine ⟨deedsOf q s, deedK q s, deedsOf_length q s, append_ok hG h0 h8 hl (by omega), g3, (if_pos g3).symm, fun k hk => ?_, fun k hk => ?_, fun k p hk => ?_⟩
    · rw [deedsOf_length] at hk
      exact ⟨deedsOf_at q s h0 h8 k (by omega), deedK_right q s k (by omega) (by omega)⟩
    · rw [deedsOf_length] at hk ⊢
      obtain ⟨g, q', h1, h2⟩ := crash_done hG h0 h8 hl (by omega) k (by omega)
      refine ⟨take_right g3 k, g, ?_⟩
      rcases h2 with ⟨h2, h3⟩ | h2
      · have := of_decide_eq_false h3
        exact ⟨recs, open_ok g h2, .inl ⟨rfl, by omega⟩, q', g, h2, by omega⟩
      · exact ⟨recs ++ [s], open_ok g h2, .inr rfl, q', g, h2, by omega⟩
    · rw [deedsOf_length] at hk
      obtain ⟨g, q', h1, h2⟩ := crash_torn hG h0 h8 hl (by omega) k (by omega) p
      refine ⟨g, ?_⟩
      rcases h2 with ⟨h2, _⟩ | h2
      · exact ⟨recs, open_ok g h2, .inl rfl, q', g, h2, by omega⟩
      · exact ⟨recs ++ [s], open_ok g h2, .inr rfl, q', g, h2, by omega⟩
theorem look_many (s : ByteArray) : ∀ (k p : Nat) {recs : List ByteArray} {q : Nat}, lookFrom s k p = (recs, q, 0) → recs.length + p ≤ q
  | 0, p, recs, q, h => by
    unfold lookFrom at h
    injection h with h1 h2
    injection h2 with h2 h3
    subst h1 h2
    simp
  | k + 1, p, recs, q, h => by
    unfold lookFrom at h
    by_cases h1 : allFF (s.extract p s.size) = true
    · rw [if_pos h1] at h
      injection h with h1 h2
      injection h2 with h2 h3
      subst h1 h2
      simp
    rw [if_neg h1] at h
    by_cases h2 : (entOf (s.extract p s.size)).2 ≠ 0
    · rw [if_pos h2] at h
      injection h with _ h
      injection h with _ h
      exact absurd h h2
    rw [if_neg h2] at h
    obtain ⟨c0, c1, c2⟩ := comb_zero h
    have hk' := (entOf_ok _ (Decidable.not_not.1 h2)).1
    have := look_many s k _ (recs := (lookFrom s k (p + (entOf (s.extract p s.size)).1.1)).1) (q := q) (by rw [c2]; exact Prod.ext rfl (Prod.ext rfl c0))
    rw [c1, List.length_append]
    split
    · simp; omega
    · simp; omega
theorem OInv.bounds {n : Nat} {G recs : List ByteArray} {need : Nat} (h : OInv n G recs need) : G.length = n ∧ n ≤ 32 ∧ 1 ≤ n ∧ recs.length ≤ 4096 ∧ chkFl G = 0 := by
  obtain ⟨q, hG, hl, _⟩ := h
  obtain ⟨h1, h2, h3, h4⟩ := lookB_zero hl
  have hz : (⟨(joinM G).toArray⟩ : ByteArray).size = n * 128 := by rw [size_of_join, joinM_length hG.2.2.2, hG.1]
  have := hG.2.2.1
  refine ⟨hG.1, this, hG.2.1, ?_, hG.chk⟩
  have h7 := look_many _ _ _ h2
  omega

set_option maxHeartbeats 1000000 in
theorem rNeed_any (s : ByteArray) (w : World) (hs : s.size ≤ 4096) : Calls Try.prog 9 #[.string s] w fun e w' => e = .returned (.int .i64 ((s.size + 8 : Nat) : Int)) ∧ w' = w := by
  have ew : wrap64 ((s.size : Int) + 8) = ((s.size + 8 : Nat) : Int) := by unfold wrap64; omega
  go_enter Try.func9, Try.ntmps9
  go_wp2
  go_ret
  exact ⟨rfl, rfl⟩

end Go.Proofs.Ythmohjgdcjafkag

/- JournalOpens: the walk. -/
namespace Go.Proofs.Ythmohjgdcjafkag.journalOpens
open Go.RowKit Go.PlainAid Go.Lib

set_option maxRecDepth 100000

theorem fmt_cases (n : Int) : (fmtRes n = ([], 3) ∧ (n < 3 ∨ (3 ≤ n ∧ 32 < n))) ∨ ∃ k : Nat, n = k ∧ 3 ≤ k ∧ k ≤ 32 ∧ fmtRes n = (newRes (k : Int), 0) := by
  by_cases h1 : n < 3
  · exact .inl ⟨if_pos h1, .inl h1⟩
  by_cases h2 : n ≤ 32
  · refine .inr ⟨n.toNat, by omega, by omega, by omega, ?_⟩
    have := fmt_ok n.toNat (by omega) (by omega)
    rw [show ((n.toNat : Nat) : Int) = n by omega] at this ⊢
    exact this
  · refine .inl ⟨?_, .inr ⟨by omega, by omega⟩⟩
    unfold fmtRes
    rw [if_neg h1, if_neg h2]
    show (newRes n, (3 : Int)) = _
    rw [show newRes n = [] from if_neg (by omega)]
theorem slice_hi (a : Option Addr) (l : List Deed) (cap k : Nat) (hk : k ≤ l.length) (hc : l.length ≤ cap) : ∃ a', (∀ W, (Instr.slice 32 (.slice a l.length cap) none (some (.int .i64 (k : Int))) none).run Try.prog W = .ok (.slice a' k cap) W) ∧
    ∀ n₀ W, RowOf 3 Deed.cell n₀ W (.slice a l.length cap) l → RowOf 3 Deed.cell n₀ W (.slice a' k cap) (l.take k) := by
  have ht : Try.prog.underlying 32 = some (.slice (Try.prog.elem 32)) := by kernel_rfl
  have he : Try.prog.elem 32 = 40 := by kernel_rfl
  have hm0 : (a.map (·.add 0)) = a := by
    cases a with
    | none => rfl
    | some x => simp [Addr.add]
  refine ⟨a, fun W => ?_, fun n₀ W h => ?_⟩
  · rw [run_slice_h W 32 _ _ _ ht .i64 _ (by omega) (by omega), he, Try.sizeOf40]
    simp only [Result.andThen, sliced, Int.toNat_natCast, Nat.zero_mul, hm0, ite_self, Nat.sub_zero]
  · obtain ⟨a', cap', e, hm, h⟩ := h
    injection e with e1 e2 e3
    subst e1 e3
    refine ⟨a, cap, by rw [List.length_take, Nat.min_eq_left hk], by rw [List.length_take]; omega, ?_⟩
    rcases h with h | ⟨b, off, rfl, hb, hcell⟩
    · exact .inl (by rw [h]; simp)
    · refine .inr ⟨b, off, rfl, hb, fun j x hj i hi => hcell j x ?_ i hi⟩
      rw [List.getElem?_take] at hj
      split at hj
      · exact hj
      · cases hj
theorem need_next {need j z m : Nat} (h : need ≤ 256 + 808 * j) (hm : m = z + 8) (hz : z ≤ 800) : need + m ≤ 256 + 808 * (j + 1) := by omega
theorem need_more {need j : Nat} (h : need ≤ 256 + 808 * j) : need ≤ 256 + 808 * (j + 1) := by omega
theorem wrap_need {need j z m : Nat} (h : need ≤ 256 + 808 * j) (hj : j ≤ 30) (hm : m = z + 8) (hz : z ≤ 800) : wrap64 ((need : Int) + (m : Int)) = ((need + m : Nat) : Int) := by unfold wrap64; omega
theorem own_capIn {W : World} {base : Nat} {e : TypeId} {size : Nat} {v : Value} {n : Nat} {xs : List Value} (h : W.ownsRow base e size v n xs) : ∃ a c, v = .slice a n c ∧ n ≤ c := by
  rcases h.2 with ⟨rfl, rfl⟩ | ⟨g, cap, cur, rfl, _, _, hc, _⟩
  · exact ⟨_, _, rfl, Nat.le_refl _⟩
  · exact ⟨_, _, rfl, hc⟩
theorem strs_one (l : List ByteArray) : ∀ u ∈ l.flatMap strC, u.oneCell' = true := by
  intro u hu
  obtain ⟨d, _, hd⟩ := List.mem_flatMap.1 hu
  simp only [strC, List.mem_cons, List.not_mem_nil, or_false] at hd
  rw [hd]; rfl

set_option maxHeartbeats 32000000 in
theorem walk (n : Int) (l : List ByteArray) (vl : Value) (ts : List Int) (va : Value) (ps : List ByteArray) (vp : Value) (w : World) (hn : (Lit.int .i64 n).wf = true) (hl : RowOf 1 strCell w.heap.size w vl l) (hsz : ∀ x ∈ l, x.size ≤ 9223372036854775807) (_ : CapIn vl) (ha : RowOf 1 intCell w.heap.size w va ts) (_ : ∀ x ∈ ts, (Lit.int .i64 x).wf = true) (_ : CapIn va) (hp : RowOf 1 strCell w.heap.size w vp ps) (hpz : ∀ x ∈ ps, x.size ≤ 9223372036854775807) (_ : CapIn vp) :
    Calls Try.prog 3 #[.int .i64 n, vl, va, vp] w fun e w' => e = .returned (.bool true) ∧ Below w.heap.size w w' := by
  obtain ⟨is, his, hs0, hs1, hs2⟩ := infoStrF_parts
  have HBJ : Hid (∀ W, Calls Try.prog 5 #[] W fun e w' => e = .returned (.bool true) ∧ Below W.heap.size W w') := journalBegun_any
  have HBG : Hid (∀ W, Calls Try.prog 6 #[] W fun e w' => e = .returned (.bool true) ∧ Below W.heap.size W w') := flashBegun_any
  have HFM : Hid (∀ W, Calls Try.prog 7 #[.int .i64 n] W fun e w' => (∃ r, e = .returned (.tuple #[.agg #[r], .int .i64 (fmtRes n).2]) ∧ IsFl w'.heap.size w' r (fmtRes n).1) ∧ Below W.heap.size W w') := fun W => format_any n W
  have HCK : Hid (∀ (G : List ByteArray) v W, chkFl G = 0 → IsFl W.heap.size W v G → Calls Try.prog 8 #[.agg #[v]] W fun e w' => e = .returned (.int .i64 0) ∧ Below W.heap.size W w') := fun G v W h0 h => by
    have := rCheckFlash_any G v W h.1
    rw [h0] at this
    exact this
  have HND : Hid (∀ (s : ByteArray) W, s.size ≤ 800 → Calls Try.prog 9 #[.string s] W fun e w' => e = .returned (.int .i64 ((s.size + 8 : Nat) : Int)) ∧ w' = W) := fun s W h => rNeed_any s W (by omega)
  have HAP : Hid (∀ (G : List ByteArray) (s : ByteArray) v W, s.size ≤ 9223372036854775807 → IsFl W.heap.size W v G → Calls Try.prog 10 #[.agg #[v], .string s] W fun e w' => (∃ r da dc, e = .returned (.tuple #[.agg #[r], .slice da (appRes G s).2.1.length dc, .int .i64 (appRes G s).2.2]) ∧ IsFl w'.heap.size w' r (appRes G s).1 ∧ (appRes G s).2.1.length ≤ dc ∧ w'.ownsRow 0 40 3 (.slice da (appRes G s).2.1.length dc) (appRes G s).2.1.length ((appRes G s).2.1.flatMap deedC)) ∧ Below W.heap.size W w') := fun G s v W h1 h2 => by
    refine (append_any G v s W h2 h1).mono ?_
    rintro e w' ⟨⟨r, d, rfl, h3, h4⟩, hb⟩
    obtain ⟨da, dc, rfl, h5⟩ := own_capIn h4
    exact ⟨⟨r, da, dc, rfl, h3, h5, own_lower h4 (Nat.zero_le _)⟩, hb⟩
  have HOP : Hid (∀ (G : List ByteArray) v W, IsFl W.heap.size W v G → Calls Try.prog 15 #[.agg #[v]] W fun e w' => (∃ r, e = .returned (.tuple #[r, .int .i64 (openRes G).2]) ∧ ((openRes G).1.length ≤ 9223372036854775807 → IsFl w'.heap.size w' r (openRes G).1)) ∧ Below W.heap.size W w') := fun G v W h => by
    refine (open_any G v W h).mono ?_
    rintro e w' ⟨⟨r, rfl, h3⟩, hb⟩
    exact ⟨⟨r, rfl, fun h4 => IsFl.own h3 h4⟩, hb⟩
  have HCD : Hid (∀ (G : List ByteArray) (L : List Deed) v vl W, chkDeeds G L = 0 → IsFl W.heap.size W v G → RowOf 3 Deed.cell W.heap.size W vl L → Calls Try.prog 11 #[.agg #[v], vl] W fun e w' => e = .returned (.int .i64 0) ∧ Below W.heap.size W w') := fun G L v vl W h0 h1 h2 => by
    have := rCheckDeeds_any G v L vl W h1.1 h2
    rw [h0] at this
    exact this
  have HDN : Hid (∀ (G : List ByteArray) (L : List Deed) v vl W, chkDeeds G L = 0 → IsFl W.heap.size W v G → RowOf 3 Deed.cell W.heap.size W vl L → Calls Try.prog 13 #[.agg #[v], vl] W fun e w' => (∃ r, e = .returned (.agg #[r]) ∧ IsFl w'.heap.size w' r (doneAll G L)) ∧ Below W.heap.size W w') := fun G L v vl W h0 h1 h2 => by
    refine (rDone_any G v L vl W h1.1 h2 h0).mono ?_
    rintro e w' ⟨⟨r, he, ho, hg⟩, hb⟩
    refine ⟨⟨r, he, IsFl.own (base := W.heap.size) (by rw [hg.1]; exact ho) (by have := hg.2.2.1; have := hg.1; omega)⟩, hb⟩
  have HTN : Hid (∀ (G : List ByteArray) (d : Deed) (p : ByteArray) v W, chkFl G = 0 → chkDeed (G.length * 128) d = 0 → p.size ≤ 9223372036854775807 → IsFl W.heap.size W v G → Calls Try.prog 14 #[.agg #[v], .agg #[.int .i64 d.kind, .int .i64 d.pos, .int .i64 d.val], .string p] W fun e w' => (∃ r, e = .returned (.agg #[r]) ∧ IsFl w'.heap.size w' r (tornB G d p)) ∧ Below W.heap.size W w') := fun G d p v W h0 h1 h2 h3 => by
    refine (rTorn_any G v d p W h3.1 h0 h1 h2).mono ?_
    rintro e w' ⟨⟨r, he, ho, hg⟩, hb⟩
    refine ⟨⟨r, he, IsFl.own (base := W.heap.size) (by rw [hg.1]; exact ho) (by have := hg.2.2.1; have := hg.1; omega)⟩, hb⟩
  have HST : Hid (∀ (X Y : List ByteArray) v v' W, IsFl W.heap.size W v X → IsFl W.heap.size W v' Y → Calls Try.prog 16 #[v, v'] W fun e w' => e = .returned (.bool (sameB X Y)) ∧ Below W.heap.size W w') := fun X Y v v' W h1 h2 => sameTexts_any X Y v v' W h1.1 h2.1
  have HSF : Hid (∀ (X : List ByteArray) v v' W, IsFl W.heap.size W v X → IsFl W.heap.size W v' X → Calls Try.prog 12 #[.agg #[v], .agg #[v']] W fun e w' => e = .returned (.bool true) ∧ Below W.heap.size W w') := fun X v v' W h1 h2 => by
    have := sameFlash_any X X v v' W h1.1 h2.1
    rw [sameB_self] at this
    exact this
  obtain ⟨la, lcap, rfl, hlm, hlr⟩ := id hl
  obtain ⟨aa, acap, rfl, ham, har⟩ := id ha
  obtain ⟨pa, pcap, rfl, hpm, hpr⟩ := id hp
  have HLR : Hid (l = [] ∨ ∃ bl off, la = some ⟨bl, off, none⟩ ∧ bl < w.heap.size ∧ ∀ j x, l[j]? = some x → ∀ i, i < 1 → w.cell? ⟨bl, off + j * 1 + i, none⟩ = some (strCell x i)) := hlr
  have HAR : Hid (ts = [] ∨ ∃ bl off, aa = some ⟨bl, off, none⟩ ∧ bl < w.heap.size ∧ ∀ j x, ts[j]? = some x → ∀ i, i < 1 → w.cell? ⟨bl, off + j * 1 + i, none⟩ = some (intCell x i)) := har
  have HPR : Hid (ps = [] ∨ ∃ bl off, pa = some ⟨bl, off, none⟩ ∧ bl < w.heap.size ∧ ∀ j x, ps[j]? = some x → ∀ i, i < 1 → w.cell? ⟨bl, off + j * 1 + i, none⟩ = some (strCell x i)) := hpr
  have HSZ : Hid (∀ x ∈ l, x.size ≤ 9223372036854775807) := hsz
  have HPZ : Hid (∀ x ∈ ps, x.size ≤ 9223372036854775807) := hpz
  clear hl hlr hsz ha har hp hpr hpz
  have HB0 : Hid (Below w.heap.size w w) := Below.refl _ _
  rcases fmt_cases n with ⟨hfm, hbad⟩ | ⟨N, rfl, hN3, hN32, hfm⟩
  · skip
    rw [hfm] at HFM
    clear hfm
    dsimp only at HFM
    go_enter Try.func3, Try.ntmps3
    go_wp2_with fail
    refine (HBJ.out _).mono ?_
    rintro e wc1 ⟨rfl, bb1⟩
    replace HB0 : Hid (Below w.heap.size w wc1) := HB0.out.trans (bb1.mono HB0.out.size)
    clear bb1
    go_wp2_with fail
    refine (HBG.out _).mono ?_
    rintro e wc2 ⟨rfl, bb2⟩
    replace HB0 : Hid (Below w.heap.size w wc2) := HB0.out.trans (bb2.mono HB0.out.size)
    clear bb2
    clear HBJ HBG
    go_wp2_with fail
    refine (HFM.out _).mono ?_
    rintro e wc3 ⟨⟨r1, rfl, hr1⟩, bb3⟩
    replace HB0 : Hid (Below w.heap.size w wc3) := HB0.out.trans (bb3.mono HB0.out.size)
    clear bb3
    obtain ⟨⟨a1, c1, rfl, _, _⟩, _⟩ := id hr1
    rw [show ([] : List ByteArray).length = 0 from rfl]
    have HBZ : Hid (Below w.heap.size w (wc3.alloc (.cells #[.slice a1 0 c1] 26))) := HB0.out.alloc HB0.out.size _
    clear hr1 HB0 HFM HCK HND HAP HOP HCD HDN HTN HST HSF HLR HAR HPR HSZ HPZ
    rcases hbad with h1 | ⟨h1, h2⟩
    · have d1 : decide (n < 3) = true := decide_eq_true h1
      clear h1 hn
      go_wp2
      go_ret
      exact ⟨rfl, HBZ.out⟩
    · have d1 : decide (n < 3) = false := decide_eq_false (by omega)
      have d2 : decide (32 < n) = true := decide_eq_true h2
      clear h1 h2 hn
      go_wp2
      go_ret
      exact ⟨rfl, HBZ.out⟩
  · skip
    clear hn
    have HO0 : Hid (OInv N (newRes (N : Int)) [] 256) := OInv.start N hN3 hN32
    have hgl0 := HO0.out.bounds.1
    have hck0 := HO0.out.bounds.2.2.2.2
    rw [hfm] at HFM
    clear hfm
    dsimp only at HFM
    go_enter Try.func3, Try.ntmps3
    go_wp2_with fail
    refine (HBJ.out _).mono ?_
    rintro e wc21 ⟨rfl, bb21⟩
    replace HB0 : Hid (Below w.heap.size w wc21) := HB0.out.trans (bb21.mono HB0.out.size)
    clear bb21
    go_wp2_with fail
    refine (HBG.out _).mono ?_
    rintro e wc22 ⟨rfl, bb22⟩
    replace HB0 : Hid (Below w.heap.size w wc22) := HB0.out.trans (bb22.mono HB0.out.size)
    clear bb22
    clear HBJ HBG
    go_wp2_with fail
    refine (HFM.out _).mono ?_
    rintro e wc23 ⟨⟨r1, rfl, hr1⟩, bb23⟩
    replace HB0 : Hid (Below w.heap.size w wc23) := HB0.out.trans (bb23.mono HB0.out.size)
    clear bb23
    obtain ⟨⟨a1, c1, rfl, _, _⟩, _⟩ := id hr1
    rw [hgl0] at hr1 ⊢
    have HG : Hid (IsFl wc23.heap.size wc23 (.slice a1 N c1) (newRes (N : Int))) := hr1
    clear hr1 HFM
    have LB9 := HB0.out.size
    have n_Hf : Hid (CellsAt (wc23.alloc (.cells #[.slice a1 N c1] 26)) (wc23.heap.size) 26 #[.slice a1 N c1]) := by first | exact CellsAt.new _ _ _ | (have := CellsAt.new wc23 26 #[.slice a1 N c1]; simp only [World.size_alloc] at this; exact this)
    have n_HB0 : Hid (Below w.heap.size w (wc23.alloc (.cells #[.slice a1 N c1] 26))) := HB0.out.alloc HB0.out.size _
    have n_HG : Hid (IsFl (wc23.alloc (.cells #[.slice a1 N c1] 26)).heap.size (wc23.alloc (.cells #[.slice a1 N c1] 26)) (.slice a1 N c1) (newRes (N : Int))) := (HG.out.below ((Below.refl _ _).alloc (Nat.le_refl _) _)).more (by simp)
    clear HB0 HG
    have HB0 := n_HB0
    clear n_HB0
    have HG := n_HG
    clear n_HG
    have Hf := n_Hf
    clear n_Hf
    have d1 : decide ((N : Int) < 3) = false := decide_eq_false (by omega)
    have d2 : decide (32 < (N : Int)) = false := decide_eq_false (by omega)
    go_wp2_with fail
    generalize (wc23.alloc (.cells #[.slice a1 N c1] 26)) = w2 at *
    generalize wc23.heap.size = B9 at *
    refine (HCK.out _ _ _ hck0 HG.out).mono ?_
    rintro e wc25 ⟨rfl, bb25⟩
    replace HB0 : Hid (Below w.heap.size w wc25) := HB0.out.trans (bb25.mono HB0.out.size)
    replace HG : Hid (IsFl wc25.heap.size wc25 (.slice a1 N c1) (newRes (N : Int))) := (HG.out.below bb25).more bb25.size
    replace Hf : Hid (CellsAt wc25 (B9) 26 #[.slice a1 N c1]) := Hf.out.below bb25 Hf.out.lt
    clear bb25
    have pl_Hf_0 := Hf.out.cell 0
    simp at pl_Hf_0
    have pl_Hf_lt := Hf.out.lt
    clear hck0 HCK
    have LTF := Hf.out.lt
    go_wp2_with fail
    clear LTF pl_Hf_0 pl_Hf_lt
    generalize newRes (N : Int) = F0 at *
    have HT : Hid (IsFl wc25.heap.size wc25 (.slice none 0 0) []) := IsFl.nil _ _
    go_loopg [11, 12, 13] 30 (fun gk s11 s12 s13 wr => ∃ (j : Nat) (G recs : List ByteArray) (need : Nat) (ga : Option Addr) (gc : Nat) (vT : Value), Hid (gk = 30 - j) ∧ j ≤ 30 ∧ j ≤ l.length ∧ s11 = vT ∧ s12 = .int .i64 need ∧ s13 = .int .i64 j ∧ Hid (OInv N G recs need) ∧ Hid (need ≤ 256 + 808 * j) ∧ Hid ((vT = .slice none 0 0 ∧ recs = []) ∨ ∃ g c, vT = .slice (some ⟨g, 0, none⟩) recs.length c ∧ 1 ≤ recs.length) ∧ Hid (Below w.heap.size w wr) ∧ Hid (IsFl wr.heap.size wr (.slice ga N gc) G) ∧ Hid (CellsAt wr (B9) 26 #[.slice ga N gc]) ∧ Hid (IsFl wr.heap.size wr (vT) recs))
    case atStart => exact ⟨0, F0, [], 256, a1, c1, _, (rfl : 30 = 30 - 0), Nat.zero_le _, Nat.zero_le _, rfl, rfl, rfl, HO0, (by show 256 ≤ 256 + 808 * 0; decide), .inl ⟨rfl, rfl⟩, HB0, HG, Hf, HT⟩
    case round =>
      obtain ⟨j, G, recs, need, ga, gc, vT, HGK, hj, hjl, rfl, rfl, rfl, HO, hneed, HTF, qHB0, qHG, qHf, qHT⟩ := hrel
      clear HO0 HB0 HG Hf HT
      have HB0 := qHB0
      clear qHB0
      have HG := qHG
      clear qHG
      have Hf := qHf
      clear qHf
      have HT := qHT
      clear qHT
      obtain ⟨hgl, -, -, hrl, -⟩ := HO.out.bounds
      obtain ⟨wl, hwl⟩ : ∃ x, x = wr := ⟨_, rfl⟩
      subst hwl
      obtain ⟨⟨ta, tc, rfl, _, _⟩, _⟩ := id HT.out
      by_cases hlt : j < l.length
      · by_cases hlt2 : j < 30
        · rcases HLR.out with h | ⟨bl, offl, rfl, hbl, hcl2⟩
          · rw [h] at hlt; exact absurd hlt (Nat.not_lt_zero _)
          obtain ⟨s, hs⟩ : ∃ s, l[j]? = some s := ⟨_, List.getElem?_eq_getElem hlt⟩
          have HSC : Hid (∀ W, Below w.heap.size w W → W.cell? ⟨bl, offl + j, none⟩ = some (.string s)) := fun W hB => (hB.cell (p := ⟨bl, offl + j, none⟩) hbl).trans (by
            have := hcl2 j s hs 0 (by omega)
            rw [Nat.mul_one, Nat.add_zero] at this
            exact this)
          have hss := HSZ.out s (List.mem_of_getElem? hs)
          have HKK : Hid (s.size ≠ 0 → s.toList.isEmpty = false) := fun h0 => by
            rw [ByteArray.toList_eq]
            cases hc : s.data.toList.isEmpty with
            | false => rfl
            | true => exact absurd (show s.data.size = 0 by rw [← Array.length_toList, List.isEmpty_iff.1 hc]; rfl) h0
          clear hcl2 hs
          have hcq := HSC.out _ HB0.out
          by_cases hz0 : s.size = 0
          · obtain rfl : s = ⟨#[]⟩ := ByteArray.ext (Array.eq_empty_of_size_eq_zero hz0)
            clear HKK hz0 HND HAP HOP HCD HDN HTN HST HSF
            go_wp2_with fail
            go_roundg (30 - (j + 1))
            case measure =>
              have := HGK.out
              omega
            case rel => exact ⟨j + 1, G, recs, need, ga, gc, _, (rfl : 30 - (j + 1) = 30 - (j + 1)), by omega, by omega, rfl, rfl, by go_num, HO, need_more hneed.out, HTF, HB0, HG, Hf, HT⟩
          by_cases hz8 : 800 < s.size
          · have ke := HKK.out hz0
            have k8 : (800 : Int) < (s.size : Int) := by omega
            clear HKK HND HAP HOP HCD HDN HTN HST HSF hz0
            go_wp2_with fail
            go_roundg (30 - (j + 1))
            case measure =>
              have := HGK.out
              omega
            case rel => exact ⟨j + 1, G, recs, need, ga, gc, _, (rfl : 30 - (j + 1) = 30 - (j + 1)), by omega, by omega, rfl, rfl, by go_num, HO, need_more hneed.out, HTF, HB0, HG, Hf, HT⟩
          have ke := HKK.out hz0
          have k8 : ¬ (800 : Int) < (s.size : Int) := by omega
          have hz1 : 1 ≤ s.size := by omega
          have hz9 : s.size ≤ 800 := by omega
          have HNX : Hid _ := HO.out.next hz1 hz9
          obtain ⟨z8, hz8q⟩ : ∃ z : Nat, z = s.size + 8 := ⟨_, rfl⟩
          have HNS : Hid (∀ W, Calls Try.prog 9 #[.string s] W fun e w' => e = .returned (.int .i64 (z8 : Int)) ∧ w' = W) := fun W => by rw [hz8q]; exact HND.out s W hz9
          rw [← hz8q] at HNX
          have ew' := wrap_need hneed.out hj hz8q hz9
          have hn2 := need_next hneed.out hz8q hz9
          obtain ⟨need2, hnd⟩ : ∃ m : Nat, m = need + z8 := ⟨_, rfl⟩
          have HND2 : Hid (need2 = need + z8) := hnd
          have HEW : Hid (wrap64 ((need : Int) + (z8 : Int)) = (need2 : Int)) := by show wrap64 _ = _; rw [ew', hnd]
          rw [← hnd] at HNX hn2
          have HN2 : Hid (need2 ≤ 256 + 808 * (j + 1)) := hn2
          clear hnd ew' hz8q hn2
          go_wp2_with fail
          refine (HNS.out _).mono ?_
          rintro e wq ⟨rfl, rfl⟩
          obtain ⟨w5, hw5⟩ : ∃ x, x = wq := ⟨_, rfl⟩
          subst hw5
          clear ke k8 hz0 hz8 HKK HND HNS
          have pl_Hf_0 := Hf.out.cell 0
          simp at pl_Hf_0
          have pl_Hf_lt := Hf.out.lt
          go_wp2_with fail
          clear pl_Hf_0 pl_Hf_lt
          have HAS : Hid _ := HAP.out G s
          rcases HNX.out with ⟨L, dk, hLl, hap, hcd, hdd, hdk, hall, htorn⟩ | ⟨hg0, hd0, he8, hspace⟩
          · rw [hap] at HAS
            have HLl : Hid (L.length = s.size + 4) := hLl
            have HCDL : Hid (chkDeeds G L = 0) := hcd
            have HDK : Hid _ := hdk
            have HALL : Hid _ := hall
            have HTORN : Hid _ := htorn
            have HGN : Hid (G.length = N) := hgl
            have hX := (hall L.length (Nat.le_refl _)).2.1
            rw [List.take_length] at hX
            have hxl := hX.1
            clear hap hcd hdd hdk hall htorn HNX hX hLl
            dsimp only at HAS
            refine (HAS.out _ _ hss HG.out).mono ?_
            rintro e wc26 ⟨⟨r5, da, dc, rfl, hr5, hdc, hrow⟩, bb26⟩
            replace HB0 : Hid (Below w.heap.size w wc26) := HB0.out.trans (bb26.mono HB0.out.size)
            replace HG : Hid (IsFl wc26.heap.size wc26 (.slice ga N gc) G) := (HG.out.below bb26).more bb26.size
            replace Hf : Hid (CellsAt wc26 (B9) 26 #[.slice ga N gc]) := Hf.out.below bb26 Hf.out.lt
            replace HT : Hid (IsFl wc26.heap.size wc26 (.slice ta recs.length tc) recs) := (HT.out.below bb26).more bb26.size
            clear bb26
            have hLs : L.length ≤ 804 := by rw [HLl.out]; omega
            have hL1 : 1 ≤ L.length := by rw [HLl.out]; omega
            obtain ⟨⟨xa, xc, rfl, _, _⟩, _⟩ := id hr5
            rw [hxl] at hr5 ⊢
            have HX : Hid (IsFl wc26.heap.size wc26 (.slice xa N xc) (doneAll G L)) := hr5
            have HD : Hid (wc26.ownsRow 0 40 3 (.slice da L.length dc) L.length (L.flatMap deedC)) := hrow
            clear hr5 hrow HAS hxl
            have LTf0 := Hf.out.lt
            have LWX := HB0.out.size
            have n_Hx : Hid (CellsAt (wc26.alloc (.cells #[.slice xa N xc] 26)) (wc26.heap.size) 26 #[.slice xa N xc]) := by first | exact CellsAt.new _ _ _ | (have := CellsAt.new wc26 26 #[.slice xa N xc]; simp only [World.size_alloc] at this; exact this)
            have n_HB0 : Hid (Below w.heap.size w (wc26.alloc (.cells #[.slice xa N xc] 26))) := HB0.out.alloc HB0.out.size _
            have n_HG : Hid (IsFl (wc26.alloc (.cells #[.slice xa N xc] 26)).heap.size (wc26.alloc (.cells #[.slice xa N xc] 26)) (.slice ga N gc) G) := (HG.out.below ((Below.refl _ _).alloc (Nat.le_refl _) _)).more (by simp)
            have n_Hf : Hid (CellsAt (wc26.alloc (.cells #[.slice xa N xc] 26)) (B9) 26 #[.slice ga N gc]) := Hf.out.kept (World.grownBy_alloc _ _ none) (by simp)
            have n_HT : Hid (IsFl (wc26.alloc (.cells #[.slice xa N xc] 26)).heap.size (wc26.alloc (.cells #[.slice xa N xc] 26)) (.slice ta recs.length tc) recs) := (HT.out.below ((Below.refl _ _).alloc (Nat.le_refl _) _)).more (by simp)
            have n_HX : Hid (IsFl (wc26.alloc (.cells #[.slice xa N xc] 26)).heap.size (wc26.alloc (.cells #[.slice xa N xc] 26)) (.slice xa N xc) (doneAll G L)) := (HX.out.below ((Below.refl _ _).alloc (Nat.le_refl _) _)).more (by simp)
            have n_HD : Hid ((wc26.alloc (.cells #[.slice xa N xc] 26)).ownsRow 0 40 3 (.slice da L.length dc) L.length (L.flatMap deedC)) := HD.out.alloc _
            clear HB0 HG Hf HT HX HD
            have HB0 := n_HB0
            clear n_HB0
            have HG := n_HG
            clear n_HG
            have Hf := n_Hf
            clear n_Hf
            have HT := n_HT
            clear n_HT
            have HX := n_HX
            clear n_HX
            have HD := n_HD
            clear n_HD
            have Hx := n_Hx
            clear n_Hx
            go_upto_region 19 with fail
            generalize (wc26.alloc (.cells #[.slice xa N xc] 26)) = w6 at *
            generalize wc26.heap.size = B15 at *
            go_cut [131] from 115 to 230 (fun s131 wx => s131 = .bool false ∧ Hid (Below w.heap.size w wx) ∧ Hid (IsFl wx.heap.size wx (.slice ga N gc) G) ∧ Hid (CellsAt wx (B9) 26 #[.slice ga N gc]) ∧ Hid (IsFl wx.heap.size wx (.slice ta recs.length tc) recs) ∧ Hid (IsFl wx.heap.size wx (.slice xa N xc) (doneAll G L)) ∧ Hid (wx.ownsRow 0 40 3 (.slice da L.length dc) L.length (L.flatMap deedC)) ∧ Hid (CellsAt wx (B15) 26 #[.slice xa N xc]))
            case first => as_aux_lemma =>
              replace HB0 : Hid (Below w.heap.size w w6.drew) := HB0.out.drew
              replace HG : Hid (IsFl w6.drew.heap.size w6.drew (.slice ga N gc) G) := (HG.out : _)
              replace Hf : Hid (CellsAt w6.drew (B9) 26 #[.slice ga N gc]) := (Hf.out : _)
              replace HT : Hid (IsFl w6.drew.heap.size w6.drew (.slice ta recs.length tc) recs) := (HT.out : _)
              replace HX : Hid (IsFl w6.drew.heap.size w6.drew (.slice xa N xc) (doneAll G L)) := (HX.out : _)
              replace HD : Hid (w6.drew.ownsRow 0 40 3 (.slice da L.length dc) L.length (L.flatMap deedC)) := HD.out.drew
              replace Hx : Hid (CellsAt w6.drew (B15) 26 #[.slice xa N xc]) := (Hx.out : _)
              refine wp_region_noPanic ?_
              refine wp_region_L (S := fun w' => CellsAt w' B9 26 #[.slice ga N gc] ∧ CellsAt w' B15 26 #[.slice xa N xc]) (x := 16) (by kernel_rfl) ?_
              generalize w6.drew = wd at *
              have hS0 : CellsAt wd B9 26 #[.slice ga N gc] ∧ CellsAt wd B15 26 #[.slice xa N xc] := ⟨Hf.out, Hx.out⟩
              refine wpL_take 0 115 (.agg #[.slice ga N gc]) rfl (by kernel_rfl) (fun _ _ _ h => h) hS0 rfl rfl (fun w' hSw => by obtain ⟨q0, q1⟩ := hSw; have q := CellsAt.cell q0 0; simp at q; clear q0 q1; go_simp) ?_
              simp only [List.setIfInBounds_toArray, List.set_cons_zero, List.set_cons_succ]
              refine wpL_take 1 116 (.slice da L.length dc) rfl (by kernel_rfl) (fun _ _ _ h => h) hS0 rfl rfl (fun w' hSw => by clear hSw; go_simp) ?_
              simp only [List.setIfInBounds_toArray, List.set_cons_zero, List.set_cons_succ]
              clear hS0
              refine wpL_step (i := 2) rfl (by kernel_rfl) (fun K hK => ?_)
              go_simp
              refine (HCD.out G L _ _ _ HCDL.out HG.out (own_rows (C := deedC) (fun _ => rfl) deedC_at HD.out (by omega))).mono ?_
              rintro e wc28 ⟨rfl, bb28⟩
              replace HB0 : Hid (Below w.heap.size w wc28) := HB0.out.trans (bb28.mono HB0.out.size)
              replace HG : Hid (IsFl wc28.heap.size wc28 (.slice ga N gc) G) := (HG.out.below bb28).more bb28.size
              replace Hf : Hid (CellsAt wc28 (B9) 26 #[.slice ga N gc]) := Hf.out.below bb28 Hf.out.lt
              replace HT : Hid (IsFl wc28.heap.size wc28 (.slice ta recs.length tc) recs) := (HT.out.below bb28).more bb28.size
              replace HX : Hid (IsFl wc28.heap.size wc28 (.slice xa N xc) (doneAll G L)) := (HX.out.below bb28).more bb28.size
              replace HD : Hid (wc28.ownsRow 0 40 3 (.slice da L.length dc) L.length (L.flatMap deedC)) := own_below HD.out bb28
              replace Hx : Hid (CellsAt wc28 (B15) 26 #[.slice xa N xc]) := Hx.out.below bb28 Hx.out.lt
              clear bb28
              go_simp
              refine hK.out _ _ ⟨Hf.out, Hx.out⟩ (fun _ => ?_)
              clear hK K
              refine wpL_take 3 118 (.bool false) rfl (by kernel_rfl) (fun _ _ _ h => h) (show _ ∧ _ from ⟨Hf.out, Hx.out⟩) rfl rfl (fun w' hSw => by clear hSw; go_simp) ?_
              simp only [List.setIfInBounds_toArray, List.set_cons_zero, List.set_cons_succ]
              refine wpL_take 4 119 (.bool false) rfl (by kernel_rfl) (fun _ _ _ h => h) (show _ ∧ _ from ⟨Hf.out, Hx.out⟩) rfl rfl (fun w' hSw => by clear hSw; go_simp) ?_
              simp only [List.setIfInBounds_toArray, List.set_cons_zero, List.set_cons_succ]
              refine wpL_take_g 5 120 (.agg #[.slice ga N gc]) rfl (by kernel_rfl) (fun _ _ _ h => h) (show _ ∧ _ from ⟨Hf.out, Hx.out⟩) rfl (by rfl) (fun w' hSw => by obtain ⟨q0, q1⟩ := hSw; have q := CellsAt.cell q0 0; simp at q; clear q0 q1; go_simp) ?_
              simp only [List.setIfInBounds_toArray, List.set_cons_zero, List.set_cons_succ]
              refine wpL_take_g 6 121 (.slice da L.length dc) rfl (by kernel_rfl) (fun _ _ _ h => h) (show _ ∧ _ from ⟨Hf.out, Hx.out⟩) rfl (by rfl) (fun w' hSw => by clear hSw; go_simp) ?_
              simp only [List.setIfInBounds_toArray, List.set_cons_zero, List.set_cons_succ]
              refine wpL_take_g 8 123 (.agg #[.slice xa N xc]) rfl (by kernel_rfl) (fun _ _ _ h => h) (show _ ∧ _ from ⟨Hf.out, Hx.out⟩) rfl (by rfl) (fun w' hSw => by obtain ⟨q0, q1⟩ := hSw; have q := CellsAt.cell q1 0; simp at q; clear q0 q1; go_simp) ?_
              simp only [List.setIfInBounds_toArray, List.set_cons_zero, List.set_cons_succ]
              refine wpL_step (i := 7) rfl (by kernel_rfl) (fun K hK => ?_)
              go_simp
              refine (HDN.out G L _ _ _ HCDL.out HG.out (own_rows (C := deedC) (fun _ => rfl) deedC_at HD.out (by omega))).mono ?_
              rintro e wc29 ⟨⟨rq, rfl, hrq⟩, bb29⟩
              replace HB0 : Hid (Below w.heap.size w wc29) := HB0.out.trans (bb29.mono HB0.out.size)
              replace HG : Hid (IsFl wc29.heap.size wc29 (.slice ga N gc) G) := (HG.out.below bb29).more bb29.size
              replace Hf : Hid (CellsAt wc29 (B9) 26 #[.slice ga N gc]) := Hf.out.below bb29 Hf.out.lt
              replace HT : Hid (IsFl wc29.heap.size wc29 (.slice ta recs.length tc) recs) := (HT.out.below bb29).more bb29.size
              replace HX : Hid (IsFl wc29.heap.size wc29 (.slice xa N xc) (doneAll G L)) := (HX.out.below bb29).more bb29.size
              replace HD : Hid (wc29.ownsRow 0 40 3 (.slice da L.length dc) L.length (L.flatMap deedC)) := own_below HD.out bb29
              replace Hx : Hid (CellsAt wc29 (B15) 26 #[.slice xa N xc]) := Hx.out.below bb29 Hx.out.lt
              clear bb29
              have HQ : Hid (IsFl wc29.heap.size wc29 (rq) (doneAll G L)) := hrq
              clear hrq
              go_simp
              refine hK.out _ _ ⟨Hf.out, Hx.out⟩ (fun _ => ?_)
              clear hK K
              refine wpL_step (i := 9) rfl (by kernel_rfl) (fun K hK => ?_)
              go_simp
              refine (HSF.out _ _ _ _ HQ.out HX.out).mono ?_
              rintro e wc30 ⟨rfl, bb30⟩
              replace HB0 : Hid (Below w.heap.size w wc30) := HB0.out.trans (bb30.mono HB0.out.size)
              replace HG : Hid (IsFl wc30.heap.size wc30 (.slice ga N gc) G) := (HG.out.below bb30).more bb30.size
              replace Hf : Hid (CellsAt wc30 (B9) 26 #[.slice ga N gc]) := Hf.out.below bb30 Hf.out.lt
              replace HT : Hid (IsFl wc30.heap.size wc30 (.slice ta recs.length tc) recs) := (HT.out.below bb30).more bb30.size
              replace HX : Hid (IsFl wc30.heap.size wc30 (.slice xa N xc) (doneAll G L)) := (HX.out.below bb30).more bb30.size
              replace HD : Hid (wc30.ownsRow 0 40 3 (.slice da L.length dc) L.length (L.flatMap deedC)) := own_below HD.out bb30
              replace Hx : Hid (CellsAt wc30 (B15) 26 #[.slice xa N xc]) := Hx.out.below bb30 Hx.out.lt
              replace HQ : Hid (IsFl wc30.heap.size wc30 (rq) (doneAll G L)) := (HQ.out.below bb30).more bb30.size
              clear bb30
              go_simp
              refine hK.out _ _ ⟨Hf.out, Hx.out⟩ (fun _ => ?_)
              clear hK K
              refine wpL_take_g 10 125 (.bool false) rfl (by kernel_rfl) (fun _ _ _ h => h) (show _ ∧ _ from ⟨Hf.out, Hx.out⟩) rfl (by rfl) (fun w' hSw => by clear hSw; go_simp) ?_
              simp only [List.setIfInBounds_toArray, List.set_cons_zero, List.set_cons_succ]
              refine wpL_take 11 126 (.bool false) rfl (by kernel_rfl) (fun _ _ _ h => h) (show _ ∧ _ from ⟨Hf.out, Hx.out⟩) rfl rfl (fun w' hSw => by clear hSw; go_simp) ?_
              simp only [List.setIfInBounds_toArray, List.set_cons_zero, List.set_cons_succ]
              refine wpL_take 12 127 (.bool false) rfl (by kernel_rfl) (fun _ _ _ h => h) (show _ ∧ _ from ⟨Hf.out, Hx.out⟩) rfl rfl (fun w' hSw => by clear hSw; go_simp) ?_
              simp only [List.setIfInBounds_toArray, List.set_cons_zero, List.set_cons_succ]
              refine wpL_take_g 13 128 (.slice da L.length dc) rfl (by kernel_rfl) (fun _ _ _ h => h) (show _ ∧ _ from ⟨Hf.out, Hx.out⟩) rfl (by rfl) (fun w' hSw => by clear hSw; go_simp) ?_
              simp only [List.setIfInBounds_toArray, List.set_cons_zero, List.set_cons_succ]
              refine wpL_take_g 14 129 (.int .i64 (L.length : Int)) rfl (by kernel_rfl) (fun _ _ _ h => h) (show _ ∧ _ from ⟨Hf.out, Hx.out⟩) rfl (by rfl) (fun w' hSw => by clear hSw; go_simp) ?_
              simp only [List.setIfInBounds_toArray, List.set_cons_zero, List.set_cons_succ]
              have hLn : ¬ (L = []) := by intro h; rw [h] at hL1; exact absurd hL1 (by decide)
              refine wpL_take_g 15 130 (.bool false) rfl (by kernel_rfl) (fun _ _ _ h => h) (show _ ∧ _ from ⟨Hf.out, Hx.out⟩) rfl (by rfl) (fun w' hSw => by clear hSw; go_simp) ?_
              simp only [List.setIfInBounds_toArray, List.set_cons_zero, List.set_cons_succ]
              refine wpL_last (x := 16) rfl (by kernel_rfl) (by kernel_rfl) (fun K hK => ?_)
              go_simp
              refine hK.out _ _ ?_
              refine NoPanic.normal ?_
              clear hK K
              go_wp2_with fail
              go_meet
              exact ⟨rfl, HB0, HG, Hf, HT, HX, HD, Hx⟩
            case rest =>
            obtain ⟨rfl, HB0, HG, Hf, HT, HX, HD, Hx⟩ := hcut
            obtain ⟨w7, hw7⟩ : ∃ x, x = wc := ⟨_, rfl⟩
            subst hw7
            clear HCD HCDL
            go_upto_region 22 with fail
            go_cut [153] from 134 to 230 (fun s153 wx => (∃ bq : Bool, s153 = .bool bq ∧ Hid (bq = true → ∃ (k ba offa : Nat), k < L.length ∧ j < ts.length ∧ aa = some ⟨ba, offa, none⟩ ∧ ba < w.heap.size ∧ w.cell? ⟨ba, offa + j, none⟩ = some (.int .i64 (k : Int)))) ∧ wx = w7)
            case first => as_aux_lemma =>
              by_cases hjt : j < ts.length
              · rcases HAR.out with h | ⟨ba, offa, rfl, hba, hca⟩
                · rw [h] at hjt; exact absurd hjt (Nat.not_lt_zero _)
                obtain ⟨x, hx⟩ : ∃ x, ts[j]? = some x := ⟨_, List.getElem?_eq_getElem hjt⟩
                have hcx : w.cell? ⟨ba, offa + j, none⟩ = some (.int .i64 x) := by
                  have := hca j x hx 0 (by omega)
                  rw [Nat.mul_one, Nat.add_zero] at this
                  exact this
                have hcw := (HB0.out.cell (p := ⟨ba, offa + j, none⟩) hba).trans hcx
                have d1 : decide ((j : Int) < (ts.length : Int)) = true := decide_eq_true (by omega)
                have HCX : Hid (w.cell? ⟨ba, offa + j, none⟩ = some (.int .i64 x)) := hcx
                clear hca hx hcx
                by_cases h0 : 0 ≤ x
                · have d2 : decide (0 ≤ x) = true := decide_eq_true h0
                  by_cases h1 : x < (L.length : Int)
                  · have d3 : decide (x < (L.length : Int)) = true := decide_eq_true h1
                    have HK : Hid (∃ (k ba' offa' : Nat), k < L.length ∧ j < ts.length ∧ (some ⟨ba, offa, none⟩ : Option Addr) = some ⟨ba', offa', none⟩ ∧ ba' < w.heap.size ∧ w.cell? ⟨ba', offa' + j, none⟩ = some (.int .i64 (k : Int))) := ⟨x.toNat, ba, offa, by omega, hjt, rfl, hba, by rw [show ((x.toNat : Nat) : Int) = x by omega]; exact HCX.out⟩
                    clear h0 h1
                    go_wp2_with fail
                    go_meet
                    exact ⟨⟨true, rfl, fun _ => HK.out⟩, rfl⟩
                  · have d3 : decide (x < (L.length : Int)) = false := decide_eq_false h1
                    clear h0 h1
                    go_wp2_with fail
                    go_meet
                    exact ⟨⟨false, rfl, fun h => by cases h⟩, rfl⟩
                · have d2 : decide (0 ≤ x) = false := decide_eq_false h0
                  clear h0
                  go_wp2_with fail
                  go_meet
                  exact ⟨⟨false, rfl, fun h => by cases h⟩, rfl⟩
              · have d1 : decide ((j : Int) < (ts.length : Int)) = false := decide_eq_false (by omega)
                go_wp2_with fail
                go_meet
                exact ⟨⟨false, rfl, fun h => by cases h⟩, rfl⟩
            case rest =>
            obtain ⟨⟨bq, rfl, HBQ⟩, rfl⟩ := hcut
            go_upto_if 153 with fail
            go_cut [18] from 153 to 230 (fun s18 wx => (∃ k : Nat, k ≤ L.length ∧ s18 = .int .i64 (k : Int)) ∧ wx = wc)
            case first => as_aux_lemma =>
              cases bq
              · go_wp2_with fail
                go_meet
                exact ⟨⟨L.length, Nat.le_refl _, rfl⟩, rfl⟩
              · obtain ⟨k, ba, offa, hk, hjt, rfl, hba, hcx⟩ := HBQ.out rfl
                have hcw := (HB0.out.cell (p := ⟨ba, offa + j, none⟩) hba).trans hcx
                have HK : Hid (k ≤ L.length) := Nat.le_of_lt hk
                clear hcx hk
                go_wp2_with fail
                go_meet
                exact ⟨⟨k, HK.out, rfl⟩, rfl⟩
            case rest =>
            obtain ⟨⟨k, hk, rfl⟩, hwx⟩ := hcut
            subst hwx
            clear HBQ
            obtain ⟨w8, hw8⟩ : ∃ x, x = wc := ⟨_, rfl⟩
            subst hw8
            obtain ⟨a', hsl, hslr⟩ := slice_hi da L dc k hk hdc
            have HSR : Hid (∀ n₀ W, RowOf 3 Deed.cell n₀ W (.slice da L.length dc) L → RowOf 3 Deed.cell n₀ W (.slice a' k dc) (L.take k)) := hslr
            clear hslr
            obtain ⟨hck, hgk, hopn⟩ := HALL.out k hk
            have HCKK : Hid (chkDeeds G (L.take k) = 0) := hck
            have HGKK : Hid (GoodF N (doneAll G (L.take k))) := hgk
            have HOPN : Hid _ := hopn
            clear hck hgk hopn
            go_upto_region 24 with fail
            go_cut [19] from 158 to 230 (fun s19 wx => (∃ (By : Nat) (vy : Value), s19 = .pointer (some ⟨By, 0, none⟩) ∧ B9 < By ∧ B15 < By ∧ Hid (CellsAt wx By 26 #[vy]) ∧ Hid (IsFl wx.heap.size wx vy (doneAll G (L.take k)))) ∧ Hid (Below w.heap.size w wx) ∧ Hid (IsFl wx.heap.size wx (.slice ga N gc) G) ∧ Hid (CellsAt wx (B9) 26 #[.slice ga N gc]) ∧ Hid (IsFl wx.heap.size wx (.slice ta recs.length tc) recs) ∧ Hid (IsFl wx.heap.size wx (.slice xa N xc) (doneAll G L)) ∧ Hid (wx.ownsRow 0 40 3 (.slice da L.length dc) L.length (L.flatMap deedC)) ∧ Hid (CellsAt wx (B15) 26 #[.slice xa N xc]))
            case first => as_aux_lemma =>
              replace HB0 : Hid (Below w.heap.size w w8.drew) := HB0.out.drew
              replace HG : Hid (IsFl w8.drew.heap.size w8.drew (.slice ga N gc) G) := (HG.out : _)
              replace Hf : Hid (CellsAt w8.drew (B9) 26 #[.slice ga N gc]) := (Hf.out : _)
              replace HT : Hid (IsFl w8.drew.heap.size w8.drew (.slice ta recs.length tc) recs) := (HT.out : _)
              replace HX : Hid (IsFl w8.drew.heap.size w8.drew (.slice xa N xc) (doneAll G L)) := (HX.out : _)
              replace HD : Hid (w8.drew.ownsRow 0 40 3 (.slice da L.length dc) L.length (L.flatMap deedC)) := HD.out.drew
              replace Hx : Hid (CellsAt w8.drew (B15) 26 #[.slice xa N xc]) := (Hx.out : _)
              refine wp_region_noPanic ?_
              refine wp_region_L (S := fun w' => CellsAt w' B9 26 #[.slice ga N gc] ∧ CellsAt w' B15 26 #[.slice xa N xc]) (x := 6) (by kernel_rfl) ?_
              generalize w8.drew = wd at *
              have hS0 : CellsAt wd B9 26 #[.slice ga N gc] ∧ CellsAt wd B15 26 #[.slice xa N xc] := ⟨Hf.out, Hx.out⟩
              refine wpL_take 0 158 (.agg #[.slice ga N gc]) rfl (by kernel_rfl) (fun _ _ _ h => h) hS0 rfl rfl (fun w' hSw => by obtain ⟨q0, q1⟩ := hSw; have q := CellsAt.cell q0 0; simp at q; clear q0 q1; go_simp) ?_
              simp only [List.setIfInBounds_toArray, List.set_cons_zero, List.set_cons_succ]
              refine wpL_take 1 159 (.slice da L.length dc) rfl (by kernel_rfl) (fun _ _ _ h => h) hS0 rfl rfl (fun w' hSw => by clear hSw; go_simp) ?_
              simp only [List.setIfInBounds_toArray, List.set_cons_zero, List.set_cons_succ]
              refine wpL_take 2 160 (.int .i64 (k : Int)) rfl (by kernel_rfl) (fun _ _ _ h => h) hS0 rfl rfl (fun w' hSw => by clear hSw; go_simp) ?_
              simp only [List.setIfInBounds_toArray, List.set_cons_zero, List.set_cons_succ]
              refine wpL_take 3 161 (.slice a' k dc) rfl (by kernel_rfl) (fun _ _ _ h => h) hS0 rfl rfl (fun w' hSw => by clear hSw; go_simp) ?_
              simp only [List.setIfInBounds_toArray, List.set_cons_zero, List.set_cons_succ]
              clear hS0
              refine wpL_two (i := 4) (j := 5) rfl rfl (by kernel_rfl) (fun K hK => ?_) (fun K hK => ?_)
              · skip
                go_simp
                refine (HDN.out G (L.take k) _ _ _ HCKK.out HG.out (HSR.out _ _ (own_rows (C := deedC) (fun _ => rfl) deedC_at HD.out (by omega)))).mono ?_
                rintro e wc31 ⟨⟨rq, rfl, hrq⟩, bb31⟩
                replace HB0 : Hid (Below w.heap.size w wc31) := HB0.out.trans (bb31.mono HB0.out.size)
                replace HG : Hid (IsFl wc31.heap.size wc31 (.slice ga N gc) G) := (HG.out.below bb31).more bb31.size
                replace Hf : Hid (CellsAt wc31 (B9) 26 #[.slice ga N gc]) := Hf.out.below bb31 Hf.out.lt
                replace HT : Hid (IsFl wc31.heap.size wc31 (.slice ta recs.length tc) recs) := (HT.out.below bb31).more bb31.size
                replace HX : Hid (IsFl wc31.heap.size wc31 (.slice xa N xc) (doneAll G L)) := (HX.out.below bb31).more bb31.size
                replace HD : Hid (wc31.ownsRow 0 40 3 (.slice da L.length dc) L.length (L.flatMap deedC)) := own_below HD.out bb31
                replace Hx : Hid (CellsAt wc31 (B15) 26 #[.slice xa N xc]) := Hx.out.below bb31 Hx.out.lt
                clear bb31
                obtain ⟨⟨aq, cq, rfl, _, _⟩, _⟩ := id hrq
                have HQ : Hid (IsFl wc31.heap.size wc31 (.slice aq (doneAll G (L.take k)).length cq) (doneAll G (L.take k))) := hrq
                clear hrq
                go_simp
                refine hK.out _ _ ⟨Hf.out, Hx.out⟩ (fun _ => ?_)
                clear hK K
                refine wpL_step (i := 5) rfl (by kernel_rfl) (fun K hK => ?_)
                go_simp
                have LTHf := Hf.out.lt
                have LTHx := Hx.out.lt
                have LWN := HB0.out.size
                have n_HN : Hid (CellsAt (wc31.alloc (.cells #[.slice none 0 0] 26)) (wc31.heap.size) 26 #[.slice none 0 0]) := CellsAt.new _ _ _
                have n_HB0 : Hid (Below w.heap.size w (wc31.alloc (.cells #[.slice none 0 0] 26))) := HB0.out.alloc HB0.out.size _
                have n_HG : Hid (IsFl (wc31.alloc (.cells #[.slice none 0 0] 26)).heap.size (wc31.alloc (.cells #[.slice none 0 0] 26)) (.slice ga N gc) G) := (HG.out.below ((Below.refl _ _).alloc (Nat.le_refl _) _)).more (by simp)
                have n_Hf : Hid (CellsAt (wc31.alloc (.cells #[.slice none 0 0] 26)) (B9) 26 #[.slice ga N gc]) := Hf.out.kept (World.grownBy_alloc _ _ none) (by simp)
                have n_HT : Hid (IsFl (wc31.alloc (.cells #[.slice none 0 0] 26)).heap.size (wc31.alloc (.cells #[.slice none 0 0] 26)) (.slice ta recs.length tc) recs) := (HT.out.below ((Below.refl _ _).alloc (Nat.le_refl _) _)).more (by simp)
                have n_HX : Hid (IsFl (wc31.alloc (.cells #[.slice none 0 0] 26)).heap.size (wc31.alloc (.cells #[.slice none 0 0] 26)) (.slice xa N xc) (doneAll G L)) := (HX.out.below ((Below.refl _ _).alloc (Nat.le_refl _) _)).more (by simp)
                have n_HD : Hid ((wc31.alloc (.cells #[.slice none 0 0] 26)).ownsRow 0 40 3 (.slice da L.length dc) L.length (L.flatMap deedC)) := HD.out.alloc _
                have n_Hx : Hid (CellsAt (wc31.alloc (.cells #[.slice none 0 0] 26)) (B15) 26 #[.slice xa N xc]) := Hx.out.kept (World.grownBy_alloc _ _ none) (by simp)
                have n_HQ : Hid (IsFl (wc31.alloc (.cells #[.slice none 0 0] 26)).heap.size (wc31.alloc (.cells #[.slice none 0 0] 26)) (.slice aq (doneAll G (L.take k)).length cq) (doneAll G (L.take k))) := (HQ.out.below ((Below.refl _ _).alloc (Nat.le_refl _) _)).more (by simp)
                clear HB0 HG Hf HT HX HD Hx HQ
                have HB0 := n_HB0
                clear n_HB0
                have HG := n_HG
                clear n_HG
                have Hf := n_Hf
                clear n_Hf
                have HT := n_HT
                clear n_HT
                have HX := n_HX
                clear n_HX
                have HD := n_HD
                clear n_HD
                have Hx := n_Hx
                clear n_Hx
                have HQ := n_HQ
                clear n_HQ
                have HN := n_HN
                clear n_HN
                refine hK.out _ _ ⟨Hf.out, Hx.out⟩ (fun _ => ?_)
                clear hK K
                generalize (wc31.alloc (.cells #[.slice none 0 0] 26)) = wq at *
                refine wpL_last (x := 6) rfl (by kernel_rfl) (by kernel_rfl) (fun K hK => ?_)
                have pq0 := HN.out.cell 0
                have pq1 := HN.out.frozen 0
                simp at pq0
                go_simp
                clear pq0 pq1
                have gs := grown_set wq (wc31.heap.size) 0 (.slice aq (doneAll G (L.take k)).length cq)
                have zc := HN.out.set 0 (.slice aq (doneAll G (L.take k)).length cq)
                simp only [List.setIfInBounds_toArray, List.set_cons_zero] at zc
                have hb9 := HB0.out.setCell (p := ⟨wc31.heap.size, 0, none⟩) (by simp; omega) (.slice aq (doneAll G (L.take k)).length cq)
                have z_HN := HN
                have n_HB0 : Hid (Below w.heap.size w (wq.setCell ⟨wc31.heap.size, 0, none⟩ (.slice aq (doneAll G (L.take k)).length cq))) := hb9
                have n_HG : Hid (IsFl (wq.setCell ⟨wc31.heap.size, 0, none⟩ (.slice aq (doneAll G (L.take k)).length cq)).heap.size (wq.setCell ⟨wc31.heap.size, 0, none⟩ (.slice aq (doneAll G (L.take k)).length cq)) (.slice ga N gc) G) := (HG.out.stored z_HN.out (fun s h => by cases h) _).more (by simp [World.setCell])
                have n_Hf : Hid (CellsAt (wq.setCell ⟨wc31.heap.size, 0, none⟩ (.slice aq (doneAll G (L.take k)).length cq)) (B9) 26 #[.slice ga N gc]) := Hf.out.kept gs (by intro e; injection e with e; omega)
                have n_HT : Hid (IsFl (wq.setCell ⟨wc31.heap.size, 0, none⟩ (.slice aq (doneAll G (L.take k)).length cq)).heap.size (wq.setCell ⟨wc31.heap.size, 0, none⟩ (.slice aq (doneAll G (L.take k)).length cq)) (.slice ta recs.length tc) recs) := (HT.out.stored z_HN.out (fun s h => by cases h) _).more (by simp [World.setCell])
                have n_HX : Hid (IsFl (wq.setCell ⟨wc31.heap.size, 0, none⟩ (.slice aq (doneAll G (L.take k)).length cq)).heap.size (wq.setCell ⟨wc31.heap.size, 0, none⟩ (.slice aq (doneAll G (L.take k)).length cq)) (.slice xa N xc) (doneAll G L)) := (HX.out.stored z_HN.out (fun s h => by cases h) _).more (by simp [World.setCell])
                have n_HD : Hid ((wq.setCell ⟨wc31.heap.size, 0, none⟩ (.slice aq (doneAll G (L.take k)).length cq)).ownsRow 0 40 3 (.slice da L.length dc) L.length (L.flatMap deedC)) := own_storeAt HD.out z_HN.out (by decide) 0 _
                have n_Hx : Hid (CellsAt (wq.setCell ⟨wc31.heap.size, 0, none⟩ (.slice aq (doneAll G (L.take k)).length cq)) (B15) 26 #[.slice xa N xc]) := Hx.out.kept gs (by intro e; injection e with e; omega)
                have n_HQ : Hid (IsFl (wq.setCell ⟨wc31.heap.size, 0, none⟩ (.slice aq (doneAll G (L.take k)).length cq)).heap.size (wq.setCell ⟨wc31.heap.size, 0, none⟩ (.slice aq (doneAll G (L.take k)).length cq)) (.slice aq (doneAll G (L.take k)).length cq) (doneAll G (L.take k))) := (HQ.out.stored z_HN.out (fun s h => by cases h) _).more (by simp [World.setCell])
                have n_HN : Hid (CellsAt (wq.setCell ⟨wc31.heap.size, 0, none⟩ (.slice aq (doneAll G (L.take k)).length cq)) (wc31.heap.size) 26 #[.slice aq (doneAll G (L.take k)).length cq]) := zc
                clear HB0 HG Hf HT HX HD Hx HQ HN
                have HB0 := n_HB0
                clear n_HB0
                have HG := n_HG
                clear n_HG
                have Hf := n_Hf
                clear n_Hf
                have HT := n_HT
                clear n_HT
                have HX := n_HX
                clear n_HX
                have HD := n_HD
                clear n_HD
                have Hx := n_Hx
                clear n_Hx
                have HQ := n_HQ
                clear n_HQ
                have HN := n_HN
                clear n_HN
                clear gs zc hb9 z_HN
                refine hK.out _ _ ?_
                refine NoPanic.normal ?_
                clear hK K
                go_wp2_with fail
                go_meet
                exact ⟨⟨_, _, rfl, by omega, by omega, HN, HQ⟩, HB0, HG, Hf, HT, HX, HD, Hx⟩
              · skip
                go_simp
                have LTHf := Hf.out.lt
                have LTHx := Hx.out.lt
                have LWN := HB0.out.size
                have n_HN : Hid (CellsAt (wd.alloc (.cells #[.slice none 0 0] 26)) (wd.heap.size) 26 #[.slice none 0 0]) := CellsAt.new _ _ _
                have n_HB0 : Hid (Below w.heap.size w (wd.alloc (.cells #[.slice none 0 0] 26))) := HB0.out.alloc HB0.out.size _
                have n_HG : Hid (IsFl (wd.alloc (.cells #[.slice none 0 0] 26)).heap.size (wd.alloc (.cells #[.slice none 0 0] 26)) (.slice ga N gc) G) := (HG.out.below ((Below.refl _ _).alloc (Nat.le_refl _) _)).more (by simp)
                have n_Hf : Hid (CellsAt (wd.alloc (.cells #[.slice none 0 0] 26)) (B9) 26 #[.slice ga N gc]) := Hf.out.kept (World.grownBy_alloc _ _ none) (by simp)
                have n_HT : Hid (IsFl (wd.alloc (.cells #[.slice none 0 0] 26)).heap.size (wd.alloc (.cells #[.slice none 0 0] 26)) (.slice ta recs.length tc) recs) := (HT.out.below ((Below.refl _ _).alloc (Nat.le_refl _) _)).more (by simp)
                have n_HX : Hid (IsFl (wd.alloc (.cells #[.slice none 0 0] 26)).heap.size (wd.alloc (.cells #[.slice none 0 0] 26)) (.slice xa N xc) (doneAll G L)) := (HX.out.below ((Below.refl _ _).alloc (Nat.le_refl _) _)).more (by simp)
                have n_HD : Hid ((wd.alloc (.cells #[.slice none 0 0] 26)).ownsRow 0 40 3 (.slice da L.length dc) L.length (L.flatMap deedC)) := HD.out.alloc _
                have n_Hx : Hid (CellsAt (wd.alloc (.cells #[.slice none 0 0] 26)) (B15) 26 #[.slice xa N xc]) := Hx.out.kept (World.grownBy_alloc _ _ none) (by simp)
                clear HB0 HG Hf HT HX HD Hx
                have HB0 := n_HB0
                clear n_HB0
                have HG := n_HG
                clear n_HG
                have Hf := n_Hf
                clear n_Hf
                have HT := n_HT
                clear n_HT
                have HX := n_HX
                clear n_HX
                have HD := n_HD
                clear n_HD
                have Hx := n_Hx
                clear n_Hx
                have HN := n_HN
                clear n_HN
                refine hK.out _ _ ⟨Hf.out, Hx.out⟩ (fun _ => ?_)
                clear hK K
                generalize (wd.alloc (.cells #[.slice none 0 0] 26)) = wq at *
                refine wpL_step (i := 4) rfl (by kernel_rfl) (fun K hK => ?_)
                go_simp
                refine (HDN.out G (L.take k) _ _ _ HCKK.out HG.out (HSR.out _ _ (own_rows (C := deedC) (fun _ => rfl) deedC_at HD.out (by omega)))).mono ?_
                rintro e wc34 ⟨⟨rq, rfl, hrq⟩, bb34⟩
                replace HB0 : Hid (Below w.heap.size w wc34) := HB0.out.trans (bb34.mono HB0.out.size)
                replace HG : Hid (IsFl wc34.heap.size wc34 (.slice ga N gc) G) := (HG.out.below bb34).more bb34.size
                replace Hf : Hid (CellsAt wc34 (B9) 26 #[.slice ga N gc]) := Hf.out.below bb34 Hf.out.lt
                replace HT : Hid (IsFl wc34.heap.size wc34 (.slice ta recs.length tc) recs) := (HT.out.below bb34).more bb34.size
                replace HX : Hid (IsFl wc34.heap.size wc34 (.slice xa N xc) (doneAll G L)) := (HX.out.below bb34).more bb34.size
                replace HD : Hid (wc34.ownsRow 0 40 3 (.slice da L.length dc) L.length (L.flatMap deedC)) := own_below HD.out bb34
                replace Hx : Hid (CellsAt wc34 (B15) 26 #[.slice xa N xc]) := Hx.out.below bb34 Hx.out.lt
                replace HN : Hid (CellsAt wc34 (wd.heap.size) 26 #[.slice none 0 0]) := HN.out.below bb34 HN.out.lt
                clear bb34
                obtain ⟨⟨aq, cq, rfl, _, _⟩, _⟩ := id hrq
                have HQ : Hid (IsFl wc34.heap.size wc34 (.slice aq (doneAll G (L.take k)).length cq) (doneAll G (L.take k))) := hrq
                clear hrq
                go_simp
                refine hK.out _ _ ⟨Hf.out, Hx.out⟩ (fun _ => ?_)
                clear hK K
                refine wpL_last (x := 6) rfl (by kernel_rfl) (by kernel_rfl) (fun K hK => ?_)
                have pq0 := HN.out.cell 0
                have pq1 := HN.out.frozen 0
                simp at pq0
                go_simp
                clear pq0 pq1
                have gs := grown_set wc34 (wd.heap.size) 0 (.slice aq (doneAll G (L.take k)).length cq)
                have zc := HN.out.set 0 (.slice aq (doneAll G (L.take k)).length cq)
                simp only [List.setIfInBounds_toArray, List.set_cons_zero] at zc
                have hb9 := HB0.out.setCell (p := ⟨wd.heap.size, 0, none⟩) (by simp; omega) (.slice aq (doneAll G (L.take k)).length cq)
                have z_HN := HN
                have n_HB0 : Hid (Below w.heap.size w (wc34.setCell ⟨wd.heap.size, 0, none⟩ (.slice aq (doneAll G (L.take k)).length cq))) := hb9
                have n_HG : Hid (IsFl (wc34.setCell ⟨wd.heap.size, 0, none⟩ (.slice aq (doneAll G (L.take k)).length cq)).heap.size (wc34.setCell ⟨wd.heap.size, 0, none⟩ (.slice aq (doneAll G (L.take k)).length cq)) (.slice ga N gc) G) := (HG.out.stored z_HN.out (fun s h => by cases h) _).more (by simp [World.setCell])
                have n_Hf : Hid (CellsAt (wc34.setCell ⟨wd.heap.size, 0, none⟩ (.slice aq (doneAll G (L.take k)).length cq)) (B9) 26 #[.slice ga N gc]) := Hf.out.kept gs (by intro e; injection e with e; omega)
                have n_HT : Hid (IsFl (wc34.setCell ⟨wd.heap.size, 0, none⟩ (.slice aq (doneAll G (L.take k)).length cq)).heap.size (wc34.setCell ⟨wd.heap.size, 0, none⟩ (.slice aq (doneAll G (L.take k)).length cq)) (.slice ta recs.length tc) recs) := (HT.out.stored z_HN.out (fun s h => by cases h) _).more (by simp [World.setCell])
                have n_HX : Hid (IsFl (wc34.setCell ⟨wd.heap.size, 0, none⟩ (.slice aq (doneAll G (L.take k)).length cq)).heap.size (wc34.setCell ⟨wd.heap.size, 0, none⟩ (.slice aq (doneAll G (L.take k)).length cq)) (.slice xa N xc) (doneAll G L)) := (HX.out.stored z_HN.out (fun s h => by cases h) _).more (by simp [World.setCell])
                have n_HD : Hid ((wc34.setCell ⟨wd.heap.size, 0, none⟩ (.slice aq (doneAll G (L.take k)).length cq)).ownsRow 0 40 3 (.slice da L.length dc) L.length (L.flatMap deedC)) := own_storeAt HD.out z_HN.out (by decide) 0 _
                have n_Hx : Hid (CellsAt (wc34.setCell ⟨wd.heap.size, 0, none⟩ (.slice aq (doneAll G (L.take k)).length cq)) (B15) 26 #[.slice xa N xc]) := Hx.out.kept gs (by intro e; injection e with e; omega)
                have n_HN : Hid (CellsAt (wc34.setCell ⟨wd.heap.size, 0, none⟩ (.slice aq (doneAll G (L.take k)).length cq)) (wd.heap.size) 26 #[.slice aq (doneAll G (L.take k)).length cq]) := zc
                have n_HQ : Hid (IsFl (wc34.setCell ⟨wd.heap.size, 0, none⟩ (.slice aq (doneAll G (L.take k)).length cq)).heap.size (wc34.setCell ⟨wd.heap.size, 0, none⟩ (.slice aq (doneAll G (L.take k)).length cq)) (.slice aq (doneAll G (L.take k)).length cq) (doneAll G (L.take k))) := (HQ.out.stored z_HN.out (fun s h => by cases h) _).more (by simp [World.setCell])
                clear HB0 HG Hf HT HX HD Hx HN HQ
                have HB0 := n_HB0
                clear n_HB0
                have HG := n_HG
                clear n_HG
                have Hf := n_Hf
                clear n_Hf
                have HT := n_HT
                clear n_HT
                have HX := n_HX
                clear n_HX
                have HD := n_HD
                clear n_HD
                have Hx := n_Hx
                clear n_Hx
                have HN := n_HN
                clear n_HN
                have HQ := n_HQ
                clear n_HQ
                clear gs zc hb9 z_HN
                refine hK.out _ _ ?_
                refine NoPanic.normal ?_
                clear hK K
                go_wp2_with fail
                go_meet
                exact ⟨⟨_, _, rfl, by omega, by omega, HN, HQ⟩, HB0, HG, Hf, HT, HX, HD, Hx⟩
            case rest =>
            obtain ⟨⟨By, vy, rfl, LBy9, LBy15, Hy, HY⟩, HB0, HG, Hf, HT, HX, HD, Hx⟩ := hcut
            obtain ⟨w9, hw9⟩ : ∃ x, x = wc := ⟨_, rfl⟩
            subst hw9
            clear hsl HSR HCKK HDN
            obtain ⟨⟨ya, yc, rfl, _, _⟩, _⟩ := id HY.out
            rw [HGKK.out.1] at HY Hy
            have HYq : Hid (IsFl w9.heap.size w9 (.slice ya N yc) (doneAll G (L.take k))) := HY
            clear HY
            have HY := HYq
            clear HYq
            go_upto_region 25 with fail
            go_cut [172] from 163 to 230 (fun s172 wx => (∃ bq : Bool, s172 = .bool bq ∧ Hid (bq = true → k < L.length ∧ j < ps.length)) ∧ wx = w9)
            case first => as_aux_lemma =>
              by_cases h1 : k < L.length
              · have d1 : decide ((k : Int) < (L.length : Int)) = true := decide_eq_true (by omega)
                by_cases h2 : j < ps.length
                · have d2 : decide ((j : Int) < (ps.length : Int)) = true := decide_eq_true (by omega)
                  have hh : Hid (k < L.length ∧ j < ps.length) := ⟨h1, h2⟩
                  go_wp2_with fail
                  go_meet
                  exact ⟨⟨true, rfl, fun _ => hh.out⟩, rfl⟩
                · have d2 : decide ((j : Int) < (ps.length : Int)) = false := decide_eq_false (by omega)
                  go_wp2_with fail
                  go_meet
                  exact ⟨⟨false, rfl, fun h => by cases h⟩, rfl⟩
              · have d1 : decide ((k : Int) < (L.length : Int)) = false := decide_eq_false (by omega)
                go_wp2_with fail
                go_meet
                exact ⟨⟨false, rfl, fun h => by cases h⟩, rfl⟩
            case rest =>
            obtain ⟨⟨bq, rfl, HBQ⟩, rfl⟩ := hcut
            go_upto_if 172 with fail
            go_cut [] from 172 to 230 (fun wx => (∃ (Y : List ByteArray) (vy : Value), Hid (CellsAt wx By 26 #[vy]) ∧ Hid (IsFl wx.heap.size wx vy Y) ∧ Hid (∃ recs', openRes Y = (recs', 0) ∧ (recs' = recs ∧ k < L.length ∨ recs' = recs ++ [s]) ∧ OInv N Y recs' need2)) ∧ Hid (Below w.heap.size w wx) ∧ Hid (IsFl wx.heap.size wx (.slice ga N gc) G) ∧ Hid (CellsAt wx (B9) 26 #[.slice ga N gc]) ∧ Hid (IsFl wx.heap.size wx (.slice ta recs.length tc) recs) ∧ Hid (IsFl wx.heap.size wx (.slice xa N xc) (doneAll G L)) ∧ Hid (wx.ownsRow 0 40 3 (.slice da L.length dc) L.length (L.flatMap deedC)) ∧ Hid (CellsAt wx (B15) 26 #[.slice xa N xc]))
            case first => as_aux_lemma =>
              cases bq
              · go_wp2_with fail
                go_meet
                exact ⟨⟨_, _, Hy, HY, HOPN⟩, HB0, HG, Hf, HT, HX, HD, Hx⟩
              · obtain ⟨hkl, hjp⟩ := HBQ.out rfl
                rcases HPR.out with h | ⟨bp, offp, rfl, hbp, hcp⟩
                · rw [h] at hjp; exact absurd hjp (Nat.not_lt_zero _)
                obtain ⟨p, hp⟩ : ∃ p, ps[j]? = some p := ⟨_, List.getElem?_eq_getElem hjp⟩
                have hpz := HPZ.out p (List.mem_of_getElem? hp)
                have HPC : Hid (∀ W, Below w.heap.size w W → W.cell? ⟨bp, offp + j, none⟩ = some (.string p)) := fun W hB => (hB.cell (p := ⟨bp, offp + j, none⟩) hbp).trans (by
                  have := hcp j p hp 0 (by omega)
                  rw [Nat.mul_one, Nat.add_zero] at this
                  exact this)
                obtain ⟨hdk1, hdk2⟩ := HDK.out k hkl
                have HTK : Hid _ := HTORN.out k p hkl
                obtain ⟨-, recs1, ho1, ho2, ho3⟩ := HTK.out
                have HOT : Hid (∃ recs', openRes (tornB (doneAll G (L.take k)) (dk k) p) = (recs', 0) ∧ (recs' = recs ∧ k < L.length ∨ recs' = recs ++ [s]) ∧ OInv N (tornB (doneAll G (L.take k)) (dk k) p) recs' need2) := ⟨recs1, ho1, ho2.imp (fun h => ⟨h, hkl⟩) id, ho3⟩
                have HTC : Hid (∀ v W, IsFl W.heap.size W v (doneAll G (L.take k)) → Calls Try.prog 14 #[.agg #[v], .agg #[.int .i64 (dk k).kind, .int .i64 (dk k).pos, .int .i64 (dk k).val], .string p] W fun e w' => (∃ r, e = .returned (.agg #[r]) ∧ IsFl w'.heap.size w' r (tornB (doneAll G (L.take k)) (dk k) p)) ∧ Below W.heap.size W w') := fun v W h => HTN.out _ (dk k) p v W HGKK.out.chk (by rw [HGKK.out.1]; exact hdk2) hpz h
                have HHR : ∃ bd offd, da = some ⟨bd, offd, none⟩ ∧ Hid (wc.cell? ⟨bd, offd + k * 3, none⟩ = some (.int .i64 (dk k).kind) ∧ wc.cell? ⟨bd, offd + k * 3 + 1, none⟩ = some (.int .i64 (dk k).pos) ∧ wc.cell? ⟨bd, offd + k * 3 + 2, none⟩ = some (.int .i64 (dk k).val)) := by
                  obtain ⟨_, _, e9, _, hdr⟩ := own_rows (C := deedC) (cells := Deed.cell) (fun _ => rfl) deedC_at HD.out (by omega)
                  injection e9 with e9 _ e10
                  subst e9
                  rcases hdr with h | ⟨bd, offd, rfl, hbd, hcd⟩
                  · rw [h] at hkl; exact absurd hkl (Nat.not_lt_zero _)
                  · exact ⟨bd, offd, rfl, hcd k _ hdk1 0 (by omega), hcd k _ hdk1 1 (by omega), hcd k _ hdk1 2 (by omega)⟩
                obtain ⟨bd, offd, rfl, HDC⟩ := HHR
                clear hdk1 hdk2 ho1 ho2 ho3 HTK hcp hp HOPN HTN HTORN
                generalize hTY : tornB (doneAll G (L.take k)) (dk k) p = Y at *
                clear hTY
                generalize dk k = d at *
                obtain ⟨kd, pd, xd⟩ := d
                dsimp only at *
                go_upto_region 26 with fail
                replace HB0 : Hid (Below w.heap.size w wc.drew) := HB0.out.drew
                replace HG : Hid (IsFl wc.drew.heap.size wc.drew (.slice ga N gc) G) := (HG.out : _)
                replace Hf : Hid (CellsAt wc.drew (B9) 26 #[.slice ga N gc]) := (Hf.out : _)
                replace HT : Hid (IsFl wc.drew.heap.size wc.drew (.slice ta recs.length tc) recs) := (HT.out : _)
                replace HX : Hid (IsFl wc.drew.heap.size wc.drew (.slice xa N xc) (doneAll G L)) := (HX.out : _)
                replace HD : Hid (wc.drew.ownsRow 0 40 3 (.slice (some ⟨bd, offd, none⟩) L.length dc) L.length (L.flatMap deedC)) := HD.out.drew
                replace Hx : Hid (CellsAt wc.drew (B15) 26 #[.slice xa N xc]) := (Hx.out : _)
                replace Hy : Hid (CellsAt wc.drew (By) 26 #[.slice ya N yc]) := (Hy.out : _)
                replace HY : Hid (IsFl wc.drew.heap.size wc.drew (.slice ya N yc) (doneAll G (L.take k))) := (HY.out : _)
                replace HDC : Hid (wc.drew.cell? ⟨bd, offd + k * 3, none⟩ = some (.int .i64 kd) ∧ wc.drew.cell? ⟨bd, offd + k * 3 + 1, none⟩ = some (.int .i64 pd) ∧ wc.drew.cell? ⟨bd, offd + k * 3 + 2, none⟩ = some (.int .i64 xd)) := (HDC.out : _)
                refine wp_region_noPanic ?_
                refine wp_region_L (S := fun w' => CellsAt w' By 26 #[.slice ya N yc] ∧ w'.cell? ⟨bp, offp + j, none⟩ = some (.string p) ∧ w'.cell? ⟨bd, offd + k * 3, none⟩ = some (.int .i64 kd) ∧ w'.cell? ⟨bd, offd + k * 3 + 1, none⟩ = some (.int .i64 pd) ∧ w'.cell? ⟨bd, offd + k * 3 + 2, none⟩ = some (.int .i64 xd)) (x := 10) (by kernel_rfl) ?_
                generalize wc.drew = wd at *
                have hS0 : CellsAt wd By 26 #[.slice ya N yc] ∧ wd.cell? ⟨bp, offp + j, none⟩ = some (.string p) ∧ wd.cell? ⟨bd, offd + k * 3, none⟩ = some (.int .i64 kd) ∧ wd.cell? ⟨bd, offd + k * 3 + 1, none⟩ = some (.int .i64 pd) ∧ wd.cell? ⟨bd, offd + k * 3 + 2, none⟩ = some (.int .i64 xd) := ⟨Hy.out, HPC.out _ HB0.out, HDC.out⟩
                refine wpL_take 0 173 (.agg #[.slice ya N yc]) rfl (by kernel_rfl) (fun _ _ _ h => h) hS0 rfl rfl (fun w' hSw => by obtain ⟨q0, q1⟩ := hSw; have q := CellsAt.cell q0 0; simp at q; clear q0 q1; go_simp) ?_
                simp only [List.setIfInBounds_toArray, List.set_cons_zero, List.set_cons_succ]
                refine wpL_take 1 174 (.slice (some ⟨bd, offd, none⟩) L.length dc) rfl (by kernel_rfl) (fun _ _ _ h => h) hS0 rfl rfl (fun w' hSw => by clear hSw; go_simp) ?_
                simp only [List.setIfInBounds_toArray, List.set_cons_zero, List.set_cons_succ]
                refine wpL_take 2 175 (.int .i64 (k : Int)) rfl (by kernel_rfl) (fun _ _ _ h => h) hS0 rfl rfl (fun w' hSw => by clear hSw; go_simp) ?_
                simp only [List.setIfInBounds_toArray, List.set_cons_zero, List.set_cons_succ]
                refine wpL_take 3 176 (.pointer (some ⟨bd, offd + k * 3, none⟩)) rfl (by kernel_rfl) (fun _ _ _ h => h) hS0 rfl rfl (fun w' hSw => by clear hSw; go_simp) ?_
                simp only [List.setIfInBounds_toArray, List.set_cons_zero, List.set_cons_succ]
                refine wpL_take 4 177 (.agg #[.int .i64 kd, .int .i64 pd, .int .i64 xd]) rfl (by kernel_rfl) (fun _ _ _ h => h) hS0 rfl rfl (fun w' hSw => by obtain ⟨_, _, q1, q2, q3⟩ := hSw; go_simp) ?_
                simp only [List.setIfInBounds_toArray, List.set_cons_zero, List.set_cons_succ]
                refine wpL_take 5 178 (.slice (some ⟨bp, offp, none⟩) ps.length pcap) rfl (by kernel_rfl) (fun _ _ _ h => h) hS0 rfl rfl (fun w' hSw => by clear hSw; go_simp) ?_
                simp only [List.setIfInBounds_toArray, List.set_cons_zero, List.set_cons_succ]
                refine wpL_take 6 179 (.int .i64 (j : Int)) rfl (by kernel_rfl) (fun _ _ _ h => h) hS0 rfl rfl (fun w' hSw => by clear hSw; go_simp) ?_
                simp only [List.setIfInBounds_toArray, List.set_cons_zero, List.set_cons_succ]
                refine wpL_take 7 180 (.pointer (some ⟨bp, offp + j, none⟩)) rfl (by kernel_rfl) (fun _ _ _ h => h) hS0 rfl rfl (fun w' hSw => by clear hSw; go_simp) ?_
                simp only [List.setIfInBounds_toArray, List.set_cons_zero, List.set_cons_succ]
                refine wpL_take 8 181 (.string p) rfl (by kernel_rfl) (fun _ _ _ h => h) hS0 rfl rfl (fun w' hSw => by obtain ⟨_, q1, _⟩ := hSw; go_simp) ?_
                simp only [List.setIfInBounds_toArray, List.set_cons_zero, List.set_cons_succ]
                refine wpL_step (i := 9) rfl (by kernel_rfl) (fun K hK => ?_)
                go_simp
                clear hS0
                refine (HTC.out _ _ HY.out).mono ?_
                rintro e wc35 ⟨⟨rq, rfl, hrq⟩, bb35⟩
                replace HB0 : Hid (Below w.heap.size w wc35) := HB0.out.trans (bb35.mono HB0.out.size)
                replace HG : Hid (IsFl wc35.heap.size wc35 (.slice ga N gc) G) := (HG.out.below bb35).more bb35.size
                replace Hf : Hid (CellsAt wc35 (B9) 26 #[.slice ga N gc]) := Hf.out.below bb35 Hf.out.lt
                replace HT : Hid (IsFl wc35.heap.size wc35 (.slice ta recs.length tc) recs) := (HT.out.below bb35).more bb35.size
                replace HX : Hid (IsFl wc35.heap.size wc35 (.slice xa N xc) (doneAll G L)) := (HX.out.below bb35).more bb35.size
                replace HD : Hid (wc35.ownsRow 0 40 3 (.slice (some ⟨bd, offd, none⟩) L.length dc) L.length (L.flatMap deedC)) := own_below HD.out bb35
                replace Hx : Hid (CellsAt wc35 (B15) 26 #[.slice xa N xc]) := Hx.out.below bb35 Hx.out.lt
                replace Hy : Hid (CellsAt wc35 (By) 26 #[.slice ya N yc]) := Hy.out.below bb35 Hy.out.lt
                replace HY : Hid (IsFl wc35.heap.size wc35 (.slice ya N yc) (doneAll G (L.take k))) := (HY.out.below bb35).more bb35.size
                replace HDC : Hid (wc35.cell? ⟨bd, offd + k * 3, none⟩ = some (.int .i64 kd) ∧ wc35.cell? ⟨bd, offd + k * 3 + 1, none⟩ = some (.int .i64 pd) ∧ wc35.cell? ⟨bd, offd + k * 3 + 2, none⟩ = some (.int .i64 xd)) := ⟨(bb35.cell (p := ⟨bd, offd + k * 3, none⟩) (block_lt_of_cell HDC.out.1)).trans HDC.out.1, (bb35.cell (p := ⟨bd, offd + k * 3 + 1, none⟩) (block_lt_of_cell HDC.out.2.1)).trans HDC.out.2.1, (bb35.cell (p := ⟨bd, offd + k * 3 + 2, none⟩) (block_lt_of_cell HDC.out.2.2)).trans HDC.out.2.2⟩
                clear bb35
                obtain ⟨⟨aq, cq, rfl, _, _⟩, _⟩ := id hrq
                have HQ : Hid (IsFl wc35.heap.size wc35 (.slice aq Y.length cq) Y) := hrq
                go_simp
                refine hK.out _ _ ⟨Hy.out, HPC.out _ HB0.out, HDC.out⟩ (fun _ => ?_)
                clear hK K hrq HDC
                refine wpL_last (x := 10) rfl (by kernel_rfl) (by kernel_rfl) (fun K hK => ?_)
                have pq0 := Hy.out.cell 0
                have pq1 := Hy.out.frozen 0
                simp at pq0
                go_simp
                clear pq0 pq1
                clear HY
                have LTHy := Hy.out.lt
                have gs := grown_set wc35 (By) 0 (.slice aq Y.length cq)
                have zc := Hy.out.set 0 (.slice aq Y.length cq)
                simp only [List.setIfInBounds_toArray, List.set_cons_zero] at zc
                have hb9 := HB0.out.setCell (p := ⟨By, 0, none⟩) (by simp; omega) (.slice aq Y.length cq)
                have z_Hy := Hy
                have n_HB0 : Hid (Below w.heap.size w (wc35.setCell ⟨By, 0, none⟩ (.slice aq Y.length cq))) := hb9
                have n_HG : Hid (IsFl (wc35.setCell ⟨By, 0, none⟩ (.slice aq Y.length cq)).heap.size (wc35.setCell ⟨By, 0, none⟩ (.slice aq Y.length cq)) (.slice ga N gc) G) := (HG.out.stored z_Hy.out (fun s h => by cases h) _).more (by simp [World.setCell])
                have n_Hf : Hid (CellsAt (wc35.setCell ⟨By, 0, none⟩ (.slice aq Y.length cq)) (B9) 26 #[.slice ga N gc]) := Hf.out.kept gs (by intro e; injection e with e; omega)
                have n_HT : Hid (IsFl (wc35.setCell ⟨By, 0, none⟩ (.slice aq Y.length cq)).heap.size (wc35.setCell ⟨By, 0, none⟩ (.slice aq Y.length cq)) (.slice ta recs.length tc) recs) := (HT.out.stored z_Hy.out (fun s h => by cases h) _).more (by simp [World.setCell])
                have n_HX : Hid (IsFl (wc35.setCell ⟨By, 0, none⟩ (.slice aq Y.length cq)).heap.size (wc35.setCell ⟨By, 0, none⟩ (.slice aq Y.length cq)) (.slice xa N xc) (doneAll G L)) := (HX.out.stored z_Hy.out (fun s h => by cases h) _).more (by simp [World.setCell])
                have n_HD : Hid ((wc35.setCell ⟨By, 0, none⟩ (.slice aq Y.length cq)).ownsRow 0 40 3 (.slice (some ⟨bd, offd, none⟩) L.length dc) L.length (L.flatMap deedC)) := own_storeAt HD.out z_Hy.out (by decide) 0 _
                have n_Hx : Hid (CellsAt (wc35.setCell ⟨By, 0, none⟩ (.slice aq Y.length cq)) (B15) 26 #[.slice xa N xc]) := Hx.out.kept gs (by intro e; injection e with e; omega)
                have n_Hy : Hid (CellsAt (wc35.setCell ⟨By, 0, none⟩ (.slice aq Y.length cq)) (By) 26 #[.slice aq Y.length cq]) := zc
                have n_HQ : Hid (IsFl (wc35.setCell ⟨By, 0, none⟩ (.slice aq Y.length cq)).heap.size (wc35.setCell ⟨By, 0, none⟩ (.slice aq Y.length cq)) (.slice aq Y.length cq) Y) := (HQ.out.stored z_Hy.out (fun s h => by cases h) _).more (by simp [World.setCell])
                clear HB0 HG Hf HT HX HD Hx Hy HQ
                have HB0 := n_HB0
                clear n_HB0
                have HG := n_HG
                clear n_HG
                have Hf := n_Hf
                clear n_Hf
                have HT := n_HT
                clear n_HT
                have HX := n_HX
                clear n_HX
                have HD := n_HD
                clear n_HD
                have Hx := n_Hx
                clear n_Hx
                have Hy := n_Hy
                clear n_Hy
                have HQ := n_HQ
                clear n_HQ
                clear gs zc hb9 z_Hy
                refine hK.out _ _ ?_
                refine NoPanic.normal ?_
                clear hK K
                go_wp2_with fail
                go_meet
                exact ⟨⟨_, _, Hy, HQ, HOT⟩, HB0, HG, Hf, HT, HX, HD, Hx⟩
            case rest =>
            obtain ⟨⟨Y, vy, Hy, HY, HRR⟩, HB0, HG, Hf, HT, HX, HD, Hx⟩ := hcut
            obtain ⟨w11, hw11⟩ : ∃ x, x = wc := ⟨_, rfl⟩
            subst hw11
            clear HBQ HOPN HTORN HTN HALL HDK HGKK HX Hx HD
            obtain ⟨recs1, hop, hcase, ho1⟩ := HRR.out
            have HO1 : Hid (OInv N Y recs1 need2) := ho1
            obtain ⟨hyl, -, -, hrl1, -⟩ := ho1.bounds
            have HOY : Hid (∀ v W, IsFl W.heap.size W v Y → Calls Try.prog 15 #[.agg #[v]] W fun e w' => (∃ r, e = .returned (.tuple #[r, .int .i64 0]) ∧ IsFl w'.heap.size w' r recs1) ∧ Below W.heap.size W w') := fun v W h => by
              have := HOP.out Y v W h
              rw [hop] at this
              refine this.mono ?_
              rintro e w' ⟨⟨r, h1, h2⟩, h3⟩
              exact ⟨⟨r, h1, h2 (by dsimp only; omega)⟩, h3⟩
            have HCS : Hid (recs1 = recs ∧ k < L.length ∨ recs1 = recs ++ [s]) := hcase
            clear HRR hop hcase ho1 HOP
            obtain ⟨⟨ya, yc, rfl, _, _⟩, _⟩ := id HY.out
            rw [hyl] at HY Hy
            have HYq : Hid (IsFl w11.heap.size w11 (.slice ya N yc) Y) := HY
            clear HY
            have HY := HYq
            clear HYq
            have pl_Hy_0 := Hy.out.cell 0
            simp at pl_Hy_0
            have pl_Hy_lt := Hy.out.lt
            go_wp2_with fail
            clear pl_Hy_0 pl_Hy_lt
            refine (HOY.out _ _ HY.out).mono ?_
            rintro e wc36 ⟨⟨ra, rfl, hra⟩, bb36⟩
            replace HB0 : Hid (Below w.heap.size w wc36) := HB0.out.trans (bb36.mono HB0.out.size)
            replace HG : Hid (IsFl wc36.heap.size wc36 (.slice ga N gc) G) := (HG.out.below bb36).more bb36.size
            replace Hf : Hid (CellsAt wc36 (B9) 26 #[.slice ga N gc]) := Hf.out.below bb36 Hf.out.lt
            replace HT : Hid (IsFl wc36.heap.size wc36 (.slice ta recs.length tc) recs) := (HT.out.below bb36).more bb36.size
            replace Hy : Hid (CellsAt wc36 (By) 26 #[.slice ya N yc]) := Hy.out.below bb36 Hy.out.lt
            replace HY : Hid (IsFl wc36.heap.size wc36 (.slice ya N yc) Y) := (HY.out.below bb36).more bb36.size
            clear bb36
            obtain ⟨⟨a20, c20, rfl, _, _⟩, _⟩ := id hra
            have HA : Hid (IsFl wc36.heap.size wc36 (.slice a20 recs1.length c20) recs1) := hra
            clear hra
            have pl_Hy_0 := Hy.out.cell 0
            simp at pl_Hy_0
            have pl_Hy_lt := Hy.out.lt
            go_wp2_with fail
            clear pl_Hy_0 pl_Hy_lt
            refine (HOY.out _ _ HY.out).mono ?_
            rintro e wc37 ⟨⟨rb, rfl, hrb⟩, bb37⟩
            replace HB0 : Hid (Below w.heap.size w wc37) := HB0.out.trans (bb37.mono HB0.out.size)
            replace HG : Hid (IsFl wc37.heap.size wc37 (.slice ga N gc) G) := (HG.out.below bb37).more bb37.size
            replace Hf : Hid (CellsAt wc37 (B9) 26 #[.slice ga N gc]) := Hf.out.below bb37 Hf.out.lt
            replace HT : Hid (IsFl wc37.heap.size wc37 (.slice ta recs.length tc) recs) := (HT.out.below bb37).more bb37.size
            replace Hy : Hid (CellsAt wc37 (By) 26 #[.slice ya N yc]) := Hy.out.below bb37 Hy.out.lt
            replace HY : Hid (IsFl wc37.heap.size wc37 (.slice ya N yc) Y) := (HY.out.below bb37).more bb37.size
            replace HA : Hid (IsFl wc37.heap.size wc37 (.slice a20 recs1.length c20) recs1) := (HA.out.below bb37).more bb37.size
            clear bb37
            obtain ⟨⟨a21, c21, rfl, _, _⟩, _⟩ := id hrb
            have HB : Hid (IsFl wc37.heap.size wc37 (.slice a21 recs1.length c21) recs1) := hrb
            clear hrb HOY
            go_wp2_with fail
            have hself := HST.out recs1 recs1
            rw [sameB_self] at hself
            have HSS : Hid _ := hself
            clear hself
            refine (HSS.out _ _ _ HA.out HB.out).mono ?_
            rintro e wc38 ⟨rfl, bb38⟩
            replace HB0 : Hid (Below w.heap.size w wc38) := HB0.out.trans (bb38.mono HB0.out.size)
            replace HG : Hid (IsFl wc38.heap.size wc38 (.slice ga N gc) G) := (HG.out.below bb38).more bb38.size
            replace Hf : Hid (CellsAt wc38 (B9) 26 #[.slice ga N gc]) := Hf.out.below bb38 Hf.out.lt
            replace HT : Hid (IsFl wc38.heap.size wc38 (.slice ta recs.length tc) recs) := (HT.out.below bb38).more bb38.size
            replace Hy : Hid (CellsAt wc38 (By) 26 #[.slice ya N yc]) := Hy.out.below bb38 Hy.out.lt
            replace HY : Hid (IsFl wc38.heap.size wc38 (.slice ya N yc) Y) := (HY.out.below bb38).more bb38.size
            replace HA : Hid (IsFl wc38.heap.size wc38 (.slice a20 recs1.length c20) recs1) := (HA.out.below bb38).more bb38.size
            replace HB : Hid (IsFl wc38.heap.size wc38 (.slice a21 recs1.length c21) recs1) := (HB.out.below bb38).more bb38.size
            clear bb38
            clear HB
            go_upto_region 31 with fail
            obtain ⟨w14, hw14⟩ : ∃ x, x = wc38 := ⟨_, rfl⟩
            subst hw14
            go_cut [23] from 205 to 230 (fun s23 wx => (∃ (g23 c23 : Nat), s23 = .slice (some ⟨g23, 0, none⟩) (recs.length + 1) c23 ∧ Hid (IsFl wx.heap.size wx (.slice (some ⟨g23, 0, none⟩) (recs.length + 1) c23) (recs ++ [s]))) ∧ Hid (Below w.heap.size w wx) ∧ Hid (IsFl wx.heap.size wx (.slice ga N gc) G) ∧ Hid (CellsAt wx (B9) 26 #[.slice ga N gc]) ∧ Hid (IsFl wx.heap.size wx (.slice ta recs.length tc) recs) ∧ Hid (CellsAt wx (By) 26 #[.slice ya N yc]) ∧ Hid (IsFl wx.heap.size wx (.slice ya N yc) Y) ∧ Hid (IsFl wx.heap.size wx (.slice a20 recs1.length c20) recs1))
            case first => as_aux_lemma =>
              have HO6 : Hid ((w14.alloc (.cells #[] 9)).ownsRow w14.heap.size 9 1 (.slice (some ⟨w14.heap.size, 0, none⟩) 0 0) 0 []) := own_empty (Nat.le_refl _)
              have HB6 : Hid (Below w14.heap.size w14 (w14.alloc (.cells #[] 9))) := (Below.refl _ _).alloc (Nat.le_refl _) _
              have HRP : Hid (recs.flatMap strC ++ [.string s] = (recs ++ [s]).flatMap strC) := by
                show _ = _
                rw [List.flatMap_append]; rfl
              have HRL : Hid ((recs ++ [s]).length = recs.length + 1) := (by simp : _ = _)
              rcases HTF.out with ⟨ht1, ht2⟩ | ⟨tg, tc2, ht1, ht2⟩
              · injection ht1 with ht1 ht3 ht4
                subst ht1 ht4
                have HR0 : Hid (recs.length = 0) := by show _ = _; rw [ht2]; rfl
                have HT2 : Hid (recs = []) := ht2
                clear ht2 ht3
                have HX7 : Hid (CellsAt ((w14.alloc (.cells #[] 9)).alloc (.cells #[.string s] 9)) (w14.heap.size + 1) 9 #[.string s]) := by
                  have := CellsAt.new (w14.alloc (.cells #[] 9)) 9 #[.string s]
                  rw [World.size_alloc] at this
                  exact this
                have HO7 : Hid (((w14.alloc (.cells #[] 9)).alloc (.cells #[.string s] 9)).ownsRow w14.heap.size 9 1 (.slice (some ⟨w14.heap.size, 0, none⟩) 0 0) 0 []) := HO6.out.alloc _
                have HB7 : Hid (Below w14.heap.size w14 ((w14.alloc (.cells #[] 9)).alloc (.cells #[.string s] 9))) := HB6.out.alloc HB6.out.size _
                go_wp2_with (first | (at_builtin; refine wpList_append_none rfl _ _ _ rfl 9 is Try.underlying22 his (some ⟨w14.heap.size, 0, none⟩) 0 0 rfl (Nat.le_refl _) 0 (by show Value.slice none recs.length 0 = _; rw [HR0.out]) ?_) | (at_builtin; refine wpList_append_lies _ rfl _ _ _ rfl w14.heap.size 9 is _ 1 16 Try.underlying22 his hs0 hs1 hs2 rfl (by omega) (.slice (some ⟨w14.heap.size, 0, none⟩) 0 0) 0 [] rfl HO7.out ⟨w14.heap.size + 1, 0, none⟩ 1 1 [.string s] rfl rfl (World.news_of_block (cs := #[.string s]) (t := 9) (fr := (0, 0)) HX7.out) (by simp [Value.oneCell']) (by omega) (by unfold maxLen; omega) (by omega) HB7.out.size _ rfl ?_; intro g8 gc8 w8' hown8 hgrow hat hltg))
                have hb8 : Below w14.heap.size w14 w8' := HB7.out.grown hgrow HB7.out.size (fun q hq => own_block HO7.out q hq)
                go_meet
                have HFW : Hid (IsFl w8'.heap.size w8' (.slice (some ⟨g8, 0, none⟩) (recs.length + 1) gc8) (recs ++ [s])) := by
                  have h9 : w8'.ownsRow w14.heap.size 9 1 (.slice (some ⟨g8, 0, none⟩) (recs.length + 1) gc8) (recs ++ [s]).length ((recs ++ [s]).flatMap strC) := by
                    rw [HRL.out, ← HRP.out]
                    rw [HT2.out]
                    exact hown8
                  have := IsFl.own h9 (by rw [HRL.out]; omega)
                  exact this
                exact ⟨⟨g8, gc8, by rw [HR0.out], HFW⟩, HB0.out.trans (hb8.mono HB0.out.size), (HG.out.below hb8).more hb8.size, Hf.out.below hb8 Hf.out.lt, (HT.out.below hb8).more hb8.size, Hy.out.below hb8 Hy.out.lt, (HY.out.below hb8).more hb8.size, (HA.out.below hb8).more hb8.size⟩
              · injection ht1 with ht1 ht3 ht4
                subst ht1 ht4
                obtain ⟨a9, c9, e9, -, htr⟩ := id HT.out.1
                injection e9 with e9 e12 e11
                subst e9
                clear e11 e12 ht3
                have hnw : ∀ i u, (recs.flatMap strC)[i]? = some u → (w14.alloc (.cells #[] 9)).cell? ((⟨tg, 0, none⟩ : Addr).add i) = some u := by
                  rcases htr with h | ⟨b, off, e9, hb, hc⟩
                  · rw [h] at ht2; exact absurd ht2 (by simp)
                  · injection e9 with e9
                    injection e9 with e9 e10
                    subst e9 e10
                    exact news_row (C := strC) (cells := strCell) (sz := 1) (by decide) (fun _ => rfl) strC_at (b := tg) (off := 0) fun i x hx q hq => by
                      have := hc i x hx q hq
                      exact (HB6.out.cell (p := ⟨tg, 0 + i * 1 + q, none⟩) hb).trans this
                go_wp2_with (first | (at_builtin; refine wpList_append_lies _ rfl _ _ _ rfl w14.heap.size 9 is _ 1 16 Try.underlying22 his hs0 hs1 hs2 rfl (by omega) (.slice (some ⟨w14.heap.size, 0, none⟩) 0 0) 0 [] rfl HO6.out ⟨tg, 0, none⟩ recs.length tc (recs.flatMap strC) rfl (flat_len (sz := 1) (fun _ => rfl) recs) hnw (strs_one recs) (by omega) (by unfold maxLen; omega) (by omega) HB6.out.size _ rfl ?_; intro g7 gc7 w7' hown7 hgrow7 hat7 hltg7; rw [Nat.zero_add, List.nil_append] at hown7; rw [Nat.zero_add]; have HB7 : Hid (Below w14.heap.size w14 w7') := HB6.out.grown hgrow7 HB6.out.size (fun q hq => own_block HO6.out q hq); have HX8 : Hid (CellsAt (w7'.alloc (.cells #[.string s] 9)) w7'.heap.size 9 #[.string s]) := CellsAt.new _ _ _; have HO8 : Hid ((w7'.alloc (.cells #[.string s] 9)).ownsRow w14.heap.size 9 1 (.slice (some ⟨g7, 0, none⟩) recs.length gc7) recs.length (recs.flatMap strC)) := hown7.alloc _; have HB8 : Hid (Below w14.heap.size w14 (w7'.alloc (.cells #[.string s] 9))) := HB7.out.alloc HB7.out.size _) | (at_builtin; refine wpList_append_lies _ rfl _ _ _ rfl w14.heap.size 9 is _ 1 16 Try.underlying22 his hs0 hs1 hs2 rfl (by omega) (.slice (some ⟨g7, 0, none⟩) recs.length gc7) recs.length (recs.flatMap strC) rfl HO8.out ⟨w7'.heap.size, 0, none⟩ 1 1 [.string s] rfl rfl (World.news_of_block (cs := #[.string s]) (t := 9) (fr := (0, 0)) HX8.out) (by simp [Value.oneCell']) (by omega) (by unfold maxLen; omega) (by omega) HB8.out.size _ rfl ?_; intro g8 gc8 w8' hown8 hgrow hat hltg))
                have hb8 : Below w14.heap.size w14 w8' := HB8.out.grown hgrow HB8.out.size (fun q hq => own_block HO8.out q hq)
                go_meet
                have HFW : Hid (IsFl w8'.heap.size w8' (.slice (some ⟨g8, 0, none⟩) (recs.length + 1) gc8) (recs ++ [s])) := by
                  have h9 : w8'.ownsRow w14.heap.size 9 1 (.slice (some ⟨g8, 0, none⟩) (recs.length + 1) gc8) (recs ++ [s]).length ((recs ++ [s]).flatMap strC) := by
                    rw [HRL.out, ← HRP.out]
                    exact hown8
                  have := IsFl.own h9 (by rw [HRL.out]; omega)
                  exact this
                exact ⟨⟨g8, gc8, rfl, HFW⟩, HB0.out.trans (hb8.mono HB0.out.size), (HG.out.below hb8).more hb8.size, Hf.out.below hb8 Hf.out.lt, (HT.out.below hb8).more hb8.size, Hy.out.below hb8 Hy.out.lt, (HY.out.below hb8).more hb8.size, (HA.out.below hb8).more hb8.size⟩
            case rest =>
            obtain ⟨⟨g23, c23, rfl, HW⟩, HB0, HG, Hf, HT, Hy, HY, HA⟩ := hcut
            obtain ⟨w15, hw15⟩ : ∃ x, x = wc := ⟨_, rfl⟩
            subst hw15
            go_wp2_with fail
            have HRL9 : Hid ((recs ++ [s]).length = recs.length + 1) := (by simp : _ = _)
            rcases HCS.out with ⟨hre, hkl⟩ | hre
            · skip
              have hre2 := hre.symm
              clear hre
              subst hre2
              have hrq : ∀ X : List ByteArray, sameB X (X ++ [s]) = false := fun X => sameB_length (by simp)
              have hsm := HST.out _ _ _ _ w15 HA.out HW.out
              rw [hrq] at hsm
              clear hrq
              have hkn : ¬ (k = L.length) := by omega
              clear hkl
              refine (hsm).mono ?_
              rintro e wc39 ⟨rfl, bb39⟩
              replace HB0 : Hid (Below w.heap.size w wc39) := HB0.out.trans (bb39.mono HB0.out.size)
              replace HG : Hid (IsFl wc39.heap.size wc39 (.slice ga N gc) G) := (HG.out.below bb39).more bb39.size
              replace Hf : Hid (CellsAt wc39 (B9) 26 #[.slice ga N gc]) := Hf.out.below bb39 Hf.out.lt
              replace HT : Hid (IsFl wc39.heap.size wc39 (.slice ta recs.length tc) recs) := (HT.out.below bb39).more bb39.size
              replace Hy : Hid (CellsAt wc39 (By) 26 #[.slice ya N yc]) := Hy.out.below bb39 Hy.out.lt
              replace HY : Hid (IsFl wc39.heap.size wc39 (.slice ya N yc) Y) := (HY.out.below bb39).more bb39.size
              replace HA : Hid (IsFl wc39.heap.size wc39 (.slice a20 recs.length c20) recs) := (HA.out.below bb39).more bb39.size
              replace HW : Hid (IsFl wc39.heap.size wc39 (.slice (some ⟨g23, 0, none⟩) (recs.length + 1) c23) (recs ++ [s])) := (HW.out.below bb39).more bb39.size
              clear bb39
              clear hsm
              go_wp2_with fail
              refine (HSS.out _ _ _ HA.out HT.out).mono ?_
              rintro e wc40 ⟨rfl, bb40⟩
              replace HB0 : Hid (Below w.heap.size w wc40) := HB0.out.trans (bb40.mono HB0.out.size)
              replace HG : Hid (IsFl wc40.heap.size wc40 (.slice ga N gc) G) := (HG.out.below bb40).more bb40.size
              replace Hf : Hid (CellsAt wc40 (B9) 26 #[.slice ga N gc]) := Hf.out.below bb40 Hf.out.lt
              replace HT : Hid (IsFl wc40.heap.size wc40 (.slice ta recs.length tc) recs) := (HT.out.below bb40).more bb40.size
              replace Hy : Hid (CellsAt wc40 (By) 26 #[.slice ya N yc]) := Hy.out.below bb40 Hy.out.lt
              replace HY : Hid (IsFl wc40.heap.size wc40 (.slice ya N yc) Y) := (HY.out.below bb40).more bb40.size
              replace HA : Hid (IsFl wc40.heap.size wc40 (.slice a20 recs.length c20) recs) := (HA.out.below bb40).more bb40.size
              replace HW : Hid (IsFl wc40.heap.size wc40 (.slice (some ⟨g23, 0, none⟩) (recs.length + 1) c23) (recs ++ [s])) := (HW.out.below bb40).more bb40.size
              clear bb40
              clear HW HA
              have pl_Hy_0 := Hy.out.cell 0
              simp at pl_Hy_0
              have pl_Hy_lt := Hy.out.lt
              have pl_Hf_0 := Hf.out.cell 0
              simp at pl_Hf_0
              have pl_Hf_lt := Hf.out.lt
              have pf := Hf.out.frozen 0
              go_wp2_with fail
              clear pf pl_Hy_0 pl_Hy_lt pl_Hf_0 pl_Hf_lt
              clear HG
              clear Hy
              have LTf := Hf.out.lt
              have gs := grown_set wc40 (B9) 0 (.slice ya N yc)
              have zc := Hf.out.set 0 (.slice ya N yc)
              simp only [List.setIfInBounds_toArray, List.set_cons_zero] at zc
              have hb9 := HB0.out.setCell (p := ⟨B9, 0, none⟩) (by simp; omega) (.slice ya N yc)
              have z_Hf := Hf
              have n_HB0 : Hid (Below w.heap.size w (wc40.setCell ⟨B9, 0, none⟩ (.slice ya N yc))) := hb9
              have n_Hf : Hid (CellsAt (wc40.setCell ⟨B9, 0, none⟩ (.slice ya N yc)) (B9) 26 #[.slice ya N yc]) := zc
              have n_HT : Hid (IsFl (wc40.setCell ⟨B9, 0, none⟩ (.slice ya N yc)).heap.size (wc40.setCell ⟨B9, 0, none⟩ (.slice ya N yc)) (.slice ta recs.length tc) recs) := (HT.out.stored z_Hf.out (fun s h => by cases h) _).more (by simp [World.setCell])
              have n_HY : Hid (IsFl (wc40.setCell ⟨B9, 0, none⟩ (.slice ya N yc)).heap.size (wc40.setCell ⟨B9, 0, none⟩ (.slice ya N yc)) (.slice ya N yc) Y) := (HY.out.stored z_Hf.out (fun s h => by cases h) _).more (by simp [World.setCell])
              clear HB0 Hf HT HY
              have HB0 := n_HB0
              clear n_HB0
              have Hf := n_Hf
              clear n_Hf
              have HT := n_HT
              clear n_HT
              have HY := n_HY
              clear n_HY
              clear gs zc hb9 z_Hf
              go_roundg (30 - (j + 1))
              case measure =>
                have := HGK.out
                omega
              case rel => exact ⟨j + 1, Y, _, need2, ya, yc, _, (rfl : 30 - (j + 1) = 30 - (j + 1)), by omega, by omega, rfl, by rw [HEW.out], by go_num, HO1, HN2, HTF, HB0, HY, Hf, HT⟩
            · subst hre
              have hsm := HST.out _ _ _ _ w15 HA.out HW.out
              rw [sameB_self] at hsm
              refine (hsm).mono ?_
              rintro e wc39 ⟨rfl, bb39⟩
              replace HB0 : Hid (Below w.heap.size w wc39) := HB0.out.trans (bb39.mono HB0.out.size)
              replace HG : Hid (IsFl wc39.heap.size wc39 (.slice ga N gc) G) := (HG.out.below bb39).more bb39.size
              replace Hf : Hid (CellsAt wc39 (B9) 26 #[.slice ga N gc]) := Hf.out.below bb39 Hf.out.lt
              replace HT : Hid (IsFl wc39.heap.size wc39 (.slice ta recs.length tc) recs) := (HT.out.below bb39).more bb39.size
              replace Hy : Hid (CellsAt wc39 (By) 26 #[.slice ya N yc]) := Hy.out.below bb39 Hy.out.lt
              replace HY : Hid (IsFl wc39.heap.size wc39 (.slice ya N yc) Y) := (HY.out.below bb39).more bb39.size
              replace HA : Hid (IsFl wc39.heap.size wc39 (.slice a20 (recs ++ [s]).length c20) (recs ++ [s])) := (HA.out.below bb39).more bb39.size
              replace HW : Hid (IsFl wc39.heap.size wc39 (.slice (some ⟨g23, 0, none⟩) (recs.length + 1) c23) (recs ++ [s])) := (HW.out.below bb39).more bb39.size
              clear bb39
              clear hsm
              clear HT HA HTF
              have pl_Hy_0 := Hy.out.cell 0
              simp at pl_Hy_0
              have pl_Hy_lt := Hy.out.lt
              have pl_Hf_0 := Hf.out.cell 0
              simp at pl_Hf_0
              have pl_Hf_lt := Hf.out.lt
              have pf := Hf.out.frozen 0
              go_wp2_with fail
              clear pf pl_Hy_0 pl_Hy_lt pl_Hf_0 pl_Hf_lt
              clear HG
              clear Hy
              have LTf := Hf.out.lt
              have gs := grown_set wc39 (B9) 0 (.slice ya N yc)
              have zc := Hf.out.set 0 (.slice ya N yc)
              simp only [List.setIfInBounds_toArray, List.set_cons_zero] at zc
              have hb9 := HB0.out.setCell (p := ⟨B9, 0, none⟩) (by simp; omega) (.slice ya N yc)
              have z_Hf := Hf
              have n_HB0 : Hid (Below w.heap.size w (wc39.setCell ⟨B9, 0, none⟩ (.slice ya N yc))) := hb9
              have n_Hf : Hid (CellsAt (wc39.setCell ⟨B9, 0, none⟩ (.slice ya N yc)) (B9) 26 #[.slice ya N yc]) := zc
              have n_HY : Hid (IsFl (wc39.setCell ⟨B9, 0, none⟩ (.slice ya N yc)).heap.size (wc39.setCell ⟨B9, 0, none⟩ (.slice ya N yc)) (.slice ya N yc) Y) := (HY.out.stored z_Hf.out (fun s h => by cases h) _).more (by simp [World.setCell])
              have n_HW : Hid (IsFl (wc39.setCell ⟨B9, 0, none⟩ (.slice ya N yc)).heap.size (wc39.setCell ⟨B9, 0, none⟩ (.slice ya N yc)) (.slice (some ⟨g23, 0, none⟩) (recs.length + 1) c23) (recs ++ [s])) := (HW.out.stored z_Hf.out (fun s h => by cases h) _).more (by simp [World.setCell])
              clear HB0 Hf HY HW
              have HB0 := n_HB0
              clear n_HB0
              have Hf := n_Hf
              clear n_Hf
              have HY := n_HY
              clear n_HY
              have HW := n_HW
              clear n_HW
              clear gs zc hb9 z_Hf
              go_roundg (30 - (j + 1))
              case measure =>
                have := HGK.out
                omega
              case rel => exact ⟨j + 1, Y, (recs ++ [s]), need2, ya, yc, _, (rfl : 30 - (j + 1) = 30 - (j + 1)), by omega, by omega, rfl, by rw [HEW.out], by go_num, HO1, HN2, .inr ⟨g23, c23, by rw [HRL9.out], by rw [HRL9.out]; omega⟩, HB0, HY, Hf, HW⟩
          · skip
            refine (HAS.out _ _ hss HG.out).mono ?_
            rintro e wc66 ⟨⟨r5, da, dc, rfl, hr5, hdc, hrow⟩, bb66⟩
            replace HB0 : Hid (Below w.heap.size w wc66) := HB0.out.trans (bb66.mono HB0.out.size)
            replace HG : Hid (IsFl wc66.heap.size wc66 (.slice ga N gc) G) := (HG.out.below bb66).more bb66.size
            replace Hf : Hid (CellsAt wc66 (B9) 26 #[.slice ga N gc]) := Hf.out.below bb66 Hf.out.lt
            replace HT : Hid (IsFl wc66.heap.size wc66 (.slice ta recs.length tc) recs) := (HT.out.below bb66).more bb66.size
            clear bb66
            obtain ⟨⟨xa, xc, rfl, _, _⟩, _⟩ := id hr5
            rw [he8, hd0, hg0]
            rw [show ([] : List ByteArray).length = 0 from rfl, show ([] : List Deed).length = 0 from rfl]
            have HBZ : Hid (Below w.heap.size w (wc66.alloc (.cells #[.slice xa 0 xc] 26))) := HB0.out.alloc HB0.out.size _
            have ew2 : wrap64 ((N : Int) * 128) = ((N * 128 : Nat) : Int) := by unfold wrap64; omega
            have hsp : ((N * 128 : Nat) : Int) < wrap64 ((need : Int) + (z8 : Int)) := by rw [HEW.out]; omega
            have dsp1 : decide (((N * 128 : Nat) : Int) < wrap64 ((need : Int) + (z8 : Int))) = true := decide_eq_true hsp
            have dsp2 : decide (wrap64 ((N : Int) * 128) < wrap64 ((need : Int) + (z8 : Int))) = true := by rw [ew2]; exact dsp1
            have ew3 : IntKind.i64.wrap ((N : Int) * 128) = ((N * 128 : Nat) : Int) := by rw [i64_is]; exact ew2
            have dsp3 : decide (IntKind.i64.wrap ((N : Int) * 128) < wrap64 ((need : Int) + (z8 : Int))) = true := by rw [ew3]; exact dsp1
            generalize N * 128 = NB at *
            clear hr5 hrow hdc HAS HNX he8 hd0 hg0 hspace HB0 HG Hf HT
            clear HAP HOP HCD HDN HTN HST HSF HLR HAR HPR HSZ HPZ HO HTF
            go_wp2
            go_ret
            exact ⟨rfl, HBZ.out⟩
        · have hj30 : j = 30 := by omega
          clear HLR HAR HPR HSZ HPZ HND HAP HOP HCD HDN HTN HST HSF HG HT Hf HO HTF
          go_wp2
          go_ret
          exact ⟨rfl, HB0.out⟩
      · obtain rfl : j = l.length := by omega
        clear HLR HAR HPR HSZ HPZ HND HAP HOP HCD HDN HTN HST HSF HG HT Hf HO HTF
        go_wp2
        go_ret
        exact ⟨rfl, HB0.out⟩

end Go.Proofs.Ythmohjgdcjafkag.journalOpens

/- Arguments that came in: texts, numbers, rows, a patch. -/
namespace Go.Proofs.Ythmohjgdcjafkag
open Go.ChangeShapes Go.WideShapes Go.ChangeAt Go.RowKit Go.PlainAid Go.Deep

set_option maxRecDepth 100000

theorem list7 {α : Type} {l : List α} (h : l.length = 7) : ∃ a b c d e f g, l = [a, b, c, d, e, f, g] := by
  match l, h with
  | [a, b, c, d, e, f, g], _ => exact ⟨a, b, c, d, e, f, g, rfl⟩
theorem list4 {α : Type} {l : List α} (h : l.length = 4) : ∃ a b c d, l = [a, b, c, d] := by
  match l, h with
  | [a, b, c, d], _ => exact ⟨a, b, c, d, rfl⟩
theorem list2 {α : Type} {l : List α} (h : l.length = 2) : ∃ a b, l = [a, b] := by
  match l, h with
  | [a, b], _ => exact ⟨a, b, rfl⟩

section
variable {H : Type} {enc : TypeId × Value → H} {W : World} {spare : Nat → Bool} {held : Bool}

theorem row_of_trod {α : Type} [Inhabited α] {t e : TypeId} {sz fuel : Nat} {c : Value} {y : DataW H × List MemPlace} {cells : α → Nat → Value} {good : α → Prop} (ht : Try.prog.underlying t = some (.slice e)) (hsz : Try.prog.cellsOf e = sz) (h0 : 0 < sz)
    (conv : ∀ n cs z, cs.length = sz → DataW.trod enc Try.prog W 0 spare held n e cs = some z → ∃ x : α, (∀ i, i < sz → cs[i]? = some (cells x i)) ∧ good x)
    (h : DataW.trod enc Try.prog W 0 spare held fuel t [c] = some y) : ∃ l : List α, RowOf sz cells W.heap.size W c l ∧ ∀ x ∈ l, good x := by
  rcases open_slice ht h with ⟨hc, _⟩ | ⟨a, len, cap, m, n, D, Pl, hc, _, hl, hm, hmm, _, hx⟩
  · injection hc with hc
    subst hc
    exact ⟨[], ⟨none, 0, rfl, Nat.zero_le _, .inl rfl⟩, by simp⟩
  · injection hc with hc
    subst hc
    rw [hsz] at hx
    have hle : len ≤ m := by rw [hmm]; split <;> omega
    obtain ⟨X, hX⟩ := choose_lt (α := α) (n := len) (p := fun i x => (∀ j, j < sz → W.cell? (a.add (i * sz + j)) = some (cells x j)) ∧ good x) (fun i hi => by
      obtain ⟨cs', h1, h2⟩ := hx i (by omega)
      obtain ⟨_, hlen, hcell⟩ := World.cells?_some h1
      obtain ⟨x, hx1, hx2⟩ := conv n cs' _ hlen h2
      refine ⟨x, fun j hj => ?_, hx2⟩
      have h3 := hcell j hj
      rw [hx1 j hj] at h3
      have hadd : (a.add (i * sz)).add j = a.add (i * sz + j) ∨ W.cell? ((a.add (i * sz)).add j) = W.cell? (a.add (i * sz + j)) := by
        unfold Addr.add
        by_cases e1 : i * sz = 0
        · rw [if_pos e1, e1, Nat.zero_add]; exact .inl rfl
        · rw [if_neg e1]
          by_cases e2 : j = 0
          · rw [if_pos e2, e2, Nat.add_zero, if_neg e1]; exact .inl rfl
          · rw [if_neg e2, if_neg (by omega), Nat.add_assoc]; exact .inl rfl
      rcases hadd with hadd | hadd
      · rw [← hadd]; exact h3
      · rw [← hadd]; exact h3)
    refine ⟨(List.range len).map X, ⟨some a, cap, by simp, by simp; unfold maxLen at hm; omega, ?_⟩, ?_⟩
    · by_cases hz : len = 0
      · left
        subst hz
        rfl
      · right
        have hc0 := (hX 0 (by omega)).1 0 h0
        rw [Nat.zero_mul, Nat.zero_add] at hc0
        obtain ⟨b, off, spot⟩ := a
        have hsp : spot = none := by simpa [Addr.add] using World.cell?_spot hc0
        subst hsp
        refine ⟨b, off, rfl, ?_, fun j x hj i hi => ?_⟩
        · have := World.block_lt_of_cell? W _ hc0
          simpa [Addr.add] using this
        · have hjl : j < len := by
            have := (List.getElem?_eq_some_iff.1 hj).1
            simpa using this
          obtain rfl : X j = x := by
            rw [List.getElem?_map, List.getElem?_range hjl] at hj
            simpa using hj
          have h4 := (hX j hjl).1 i hi
          unfold Addr.add at h4
          by_cases e0 : j * sz + i = 0
          · rw [if_pos e0] at h4
            rw [Nat.add_assoc, e0]
            exact h4
          · rw [if_neg e0] at h4
            rw [Nat.add_assoc]
            exact h4
    · intro x hx
      obtain ⟨i, hi, rfl⟩ := List.mem_map.1 hx
      exact (hX i (by simpa using hi)).2

theorem str_of_trod {n : Nat} {c : Value} {y : DataW H × List MemPlace} (h : DataW.trod enc Try.prog W 0 spare held n 9 [c] = some y) : ∃ s : ByteArray, c = .string s ∧ s.size ≤ 9223372036854775807 := by
  obtain ⟨s, hc, _, hs⟩ := DataW.trod_string Try.underlying9 h
  injection hc with hc
  exact ⟨s, hc, hs⟩
theorem int_of_trod {n : Nat} {c : Value} {y : DataW H × List MemPlace} (h : DataW.trod enc Try.prog W 0 spare held n 3 [c] = some y) : ∃ k : Int, c = .int .i64 k := by
  obtain ⟨k, hc, _, _⟩ := DataW.trod_int Try.underlying3 h
  injection hc with hc
  exact ⟨k, hc⟩

end

end Go.Proofs.Ythmohjgdcjafkag
