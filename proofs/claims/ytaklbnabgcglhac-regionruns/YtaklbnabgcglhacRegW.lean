/- The contracts of region's small functions: sectors, outside, gap; Size. -/
import Derived.Test.YtaklbnabgcglhacPlcW
import Derived.Test.YtaklbnabgcglhacOwnA
import Derived.Lib.QuietBelow
namespace Go.Proofs.Ytaklbnabgcglhac
open Go.RowKit Go.PlainAid

set_option maxRecDepth 100000

set_option maxHeartbeats 1000000 in
theorem sectors_any (N T : ByteArray) (ma mi : Int) (pe pi pp : Option Addr) (le ke li ki lp kp : Nat) (w : World) (hT : T.size ≤ 256) :
    Calls Try.prog 34 #[.agg #[.string N, .int .i64 ma, .int .i64 mi, .string T, .slice pe le ke, .slice pi li ki, .slice pp lp kp]] w fun e w' => e = .returned (.int .i64 (((T.size + 63) / 64 : Nat) : Int)) ∧ Below w.heap.size w w' := by
  have e1 : ((T.size : Int) + 64 - 1) / 64 = (((T.size + 63) / 64 : Nat) : Int) := by omega
  go_enter Try.func34, Try.ntmps34
  go_wp2
  go_ret
  refine ⟨?_, (Below.refl _ _).alloc (Nat.le_refl _) _⟩
  show Ending.returned (.int .i64 (((T.size : Int) + 64 - 1) / 64)) = _
  rw [e1]

set_option maxHeartbeats 1000000 in
theorem size_any (M : Mod) (v : Value) (w : World) (hM : IsMod w.heap.size w v M) (hf : M.fits) :
    Calls Try.prog 15 #[v] w fun e w' => e = .returned (.tuple #[.int .i64 (if chkMod M = 0 then (szM M : Int) else 0), .int .i64 (chkMod M)]) ∧ Below w.heap.size w w' := by
  have HC : Hid (∀ W, Below w.heap.size w W → Calls Try.prog 33 #[v] W fun e w' => e = .returned (.int .i64 (chkMod M)) ∧ Below W.heap.size W w') := fun W hb => check_any M v W ((hM.below hb).more hb.size) hf
  have HT : chkMod M = 0 → M.text.size ≤ 256 := fun h => (szM_bd h).2.2.1
  have hsz : Hid (szM M = (M.text.size + 63) / 64) := rfl
  have key : (chkMod M = 0 ∧ (if chkMod M = 0 then (szM M : Int) else 0) = (szM M : Int)) ∨ (chkMod M ≠ 0 ∧ (if chkMod M = 0 then (szM M : Int) else 0) = 0) := by
    by_cases h : chkMod M = 0
    · exact .inl ⟨h, if_pos h⟩
    · exact .inr ⟨h, if_neg h⟩
  generalize (if chkMod M = 0 then (szM M : Int) else 0) = R at *
  generalize szM M = sz at *
  generalize chkMod M = cm at *
  obtain ⟨ve, vi, vp, rfl, hE, hI, hP⟩ := hM
  obtain ⟨pe, ke, rfl, _, _⟩ := hE
  obtain ⟨pi, ki, rfl, _, _⟩ := hI
  obtain ⟨pp, kp, rfl, _, _⟩ := hP
  obtain ⟨N, ma, mi, T, es, is, ps⟩ := M
  dsimp only at *
  generalize es.length = le at *
  generalize is.length = li at *
  generalize ps.length = lp at *
  have HB : Hid (Below w.heap.size w (w.alloc (.cells #[.string N, .int .i64 ma, .int .i64 mi, .string T, .slice pe le ke, .slice pi li ki, .slice pp lp kp] 36))) := (Below.refl _ _).alloc (Nat.le_refl _) _
  have HCA : Hid (CellsAt (w.alloc (.cells #[.string N, .int .i64 ma, .int .i64 mi, .string T, .slice pe le ke, .slice pi li ki, .slice pp lp kp] 36)) w.heap.size 36 #[.string N, .int .i64 ma, .int .i64 mi, .string T, .slice pe le ke, .slice pi li ki, .slice pp lp kp]) := CellsAt.new _ _ _
  go_enter Try.func15, Try.ntmps15
  go_wp2_with fail
  refine (HC.out _ HB.out).mono ?_
  rintro e w2 ⟨rfl, b2⟩
  have B2 := HB.out.trans (b2.mono HB.out.size)
  have C2 := HCA.out.below b2 HCA.out.lt
  clear HB HCA b2 HC
  rcases key with ⟨rfl, rfl⟩ | ⟨h0, rfl⟩
  · have hT : T.size ≤ 256 := by first | exact HT rfl | exact HT trivial | exact HT
    have t0 := C2.cell 0
    have t1 := C2.cell 1
    have t2 := C2.cell 2
    have t3 := C2.cell 3
    have t4 := C2.cell 4
    have t5 := C2.cell 5
    have t6 := C2.cell 6
    simp at t0 t1 t2 t3 t4 t5 t6
    clear C2 HT
    go_wp2_with fail
    refine (sectors_any _ _ _ _ _ _ _ _ _ _ _ _ _ _ hT).mono ?_
    rintro e w3 ⟨rfl, b3⟩
    have B3 := B2.trans (b3.mono B2.size)
    clear b3 t0 t1 t2 t3 t4 t5 t6
    rw [← hsz.out]
    clear hsz
    go_wp2
    go_ret2
    exact ⟨rfl, B3⟩
  · have h0' : (cm != 0) = true := by simpa using h0
    clear C2 HT h0
    go_wp2
    go_ret2
    exact ⟨rfl, B2⟩

set_option maxHeartbeats 1000000 in
theorem outside_any (x : PV) (n₀ : Nat) (w : World) (hat : PlcAt n₀ w x) (h0 : chkMod x.mod = 0) :
    Calls Try.prog 68 #[x.val] w fun e w' => e = .returned (.int .i64 (outErr x.plc)) ∧ Below w.heap.size w w' := by
  have hT : x.mod.text.size ≤ 256 := (szM_bd h0).2.2.1
  have key : (x.first < 0 ∧ outErr x.plc = 3) ∨ (0 ≤ x.first ∧ 16 - (szM x.mod : Int) < x.first ∧ outErr x.plc = 3) ∨ (0 ≤ x.first ∧ x.first ≤ 16 - (szM x.mod : Int) ∧ outErr x.plc = 0) := by
    unfold outErr PV.plc
    dsimp only
    by_cases g1 : x.first < 0
    · exact .inl ⟨g1, if_pos (.inl g1)⟩
    by_cases g2 : 16 - (szM x.mod : Int) < x.first
    · exact .inr (.inl ⟨by omega, g2, if_pos (.inr g2)⟩)
    · exact .inr (.inr ⟨by omega, by omega, if_neg (by omega)⟩)
  have hsz : szM x.mod = (x.mod.text.size + 63) / 64 := rfl
  have hs4 := (szM_bd h0).2.1
  generalize szM x.mod = sz at *
  generalize outErr x.plc = oe at *
  unfold PV.val
  obtain ⟨⟨pe, ke, e4, _⟩, ⟨pi, ki, e5, _⟩, ⟨pp, kp, e6, _⟩⟩ := hat
  obtain ⟨⟨N, ma, mi, T, es, is, ps⟩, ve, vi, vp, fi⟩ := x
  dsimp only at *
  subst e4 e5 e6
  generalize es.length = le at *
  generalize is.length = li at *
  generalize ps.length = lp at *
  clear h0
  have HS : Hid (∀ W, Calls Try.prog 34 #[.agg #[.string N, .int .i64 ma, .int .i64 mi, .string T, .slice pe le ke, .slice pi li ki, .slice pp lp kp]] W fun e w' => e = .returned (.int .i64 (sz : Int)) ∧ Below W.heap.size W w') := fun W => by
    rw [hsz]
    exact sectors_any _ _ _ _ _ _ _ _ _ _ _ _ _ _ hT
  clear hsz
  have C2 : CellsAt (w.alloc (.cells #[.string N, .int .i64 ma, .int .i64 mi, .string T, .slice pe le ke, .slice pi li ki, .slice pp lp kp, .int .i64 fi] 38)) w.heap.size 38 #[.string N, .int .i64 ma, .int .i64 mi, .string T, .slice pe le ke, .slice pi li ki, .slice pp lp kp, .int .i64 fi] := CellsAt.new _ _ _
  have B2 : Below w.heap.size w (w.alloc (.cells #[.string N, .int .i64 ma, .int .i64 mi, .string T, .slice pe le ke, .slice pi li ki, .slice pp lp kp, .int .i64 fi] 38)) := (Below.refl _ _).alloc (Nat.le_refl _) _
  have t0 := cell_regrown (C2.cell 0)
  have t1 := cell_regrown (C2.cell 1)
  have t2 := cell_regrown (C2.cell 2)
  have t3 := cell_regrown (C2.cell 3)
  have t4 := cell_regrown (C2.cell 4)
  have t5 := cell_regrown (C2.cell 5)
  have t6 := cell_regrown (C2.cell 6)
  have t7 := cell_regrown (C2.cell 7)
  clear C2
  rcases key with ⟨h1, rfl⟩ | ⟨h1, h2, rfl⟩ | ⟨h1, h2, rfl⟩
  · go_enter Try.func68, Try.ntmps68
    go_wp2_with fail
    generalize w.alloc (.cells #[.string N, .int .i64 ma, .int .i64 mi, .string T, .slice pe le ke, .slice pi li ki, .slice pp lp kp, .int .i64 fi] 38) = W1 at t0 t1 t2 t3 t4 t5 t6 t7 B2 ⊢
    refine wp_region_quiet_below (by kernel_rfl) (by kernel_rfl) ?_
    repeat (quiet_step ((go_at_call 34; go_must (exact Calls.regrown_of (HS.out _)))))
    refine wpQuiet_nil ?_
    intro _ hw'
    obtain ⟨⟨dq, osq⟩, hw''⟩ := hw'
    have B5 := B2.trans ((below_regrown W1 dq osq).mono B2.size)
    rw [← hw''] at B5
    clear hw''
    go_wp2
    go_ret
    exact ⟨rfl, B5⟩
  · have h1' : decide (fi < 0) = false := decide_eq_false (by omega)
    go_enter Try.func68, Try.ntmps68
    go_wp2_with fail
    generalize w.alloc (.cells #[.string N, .int .i64 ma, .int .i64 mi, .string T, .slice pe le ke, .slice pi li ki, .slice pp lp kp, .int .i64 fi] 38) = W1 at t0 t1 t2 t3 t4 t5 t6 t7 B2 ⊢
    have i1 : IntKind.i64.wrap (16 - (sz : Int)) = 16 - (sz : Int) := by rw [i64_is]; unfold wrap64; omega
    refine wp_region_quiet_below (by kernel_rfl) (by kernel_rfl) ?_
    repeat (quiet_step ((go_at_call 34; go_must (exact Calls.regrown_of (HS.out _)))))
    refine wpQuiet_nil ?_
    intro _ hw'
    obtain ⟨⟨dq, osq⟩, hw''⟩ := hw'
    have B5 := B2.trans ((below_regrown W1 dq osq).mono B2.size)
    rw [← hw''] at B5
    clear hw''
    go_wp2
    go_ret
    exact ⟨rfl, B5⟩
  · have h1' : decide (fi < 0) = false := decide_eq_false (by omega)
    have h2' : decide (16 - (sz : Int) < fi) = false := decide_eq_false (by omega)
    go_enter Try.func68, Try.ntmps68
    go_wp2_with fail
    generalize w.alloc (.cells #[.string N, .int .i64 ma, .int .i64 mi, .string T, .slice pe le ke, .slice pi li ki, .slice pp lp kp, .int .i64 fi] 38) = W1 at t0 t1 t2 t3 t4 t5 t6 t7 B2 ⊢
    have i1 : IntKind.i64.wrap (16 - (sz : Int)) = 16 - (sz : Int) := by rw [i64_is]; unfold wrap64; omega
    refine wp_region_quiet_below (by kernel_rfl) (by kernel_rfl) ?_
    repeat (quiet_step ((go_at_call 34; go_must (exact Calls.regrown_of (HS.out _)))))
    refine wpQuiet_nil ?_
    intro _ hw'
    obtain ⟨⟨dq, osq⟩, hw''⟩ := hw'
    have B5 := B2.trans ((below_regrown W1 dq osq).mono B2.size)
    rw [← hw''] at B5
    clear hw''
    go_wp2
    go_ret
    exact ⟨rfl, B5⟩

def runC (r : Int × Int) : List Value := [.int .i64 r.1, .int .i64 r.2]
def runCell (r : Int × Int) : Nat → Value
  | 0 => .int .i64 r.1
  | _ => .int .i64 r.2
theorem runC_at (x : Int × Int) (i : Nat) (hi : i < 2) : (runC x)[i]? = some (runCell x i) := by
  have : i = 0 ∨ i = 1 := by omega
  rcases this with rfl | rfl <;> rfl
theorem infoRun : (Try.prog.info? 55).map (fun i => (i.zero, i.size, i.bytes)) = some (some (.agg #[.int .i64 0, .int .i64 0]), 2, 16) := by kernel_rfl
theorem infoRun_parts : ∃ i, Try.prog.info? 55 = some i ∧ i.zero = some (.agg #[.int .i64 0, .int .i64 0]) ∧ i.size = 2 ∧ i.bytes = 16 := by
  have h := infoRun
  cases hi : Try.prog.info? 55 with
  | none => rw [hi] at h; cases h
  | some i =>
    rw [hi] at h
    simp at h
    exact ⟨i, rfl, h.1, h.2.1, h.2.2⟩

set_option maxHeartbeats 1000000 in
theorem gap_any (l : List (Int × Int)) (a b : Int) (v : Value) (base : Nat) (w : World) (hown : w.ownsRow base 55 2 v l.length (l.flatMap runC)) (hb : base ≤ w.heap.size) (hl : l.length ≤ 16) (ha : 0 ≤ a ∧ a ≤ 16) (hb2 : 0 ≤ b ∧ b ≤ 16) :
    Calls Try.prog 36 #[v, .int .i64 a, .int .i64 b] w fun e w' => (∃ r, e = .returned r ∧ w'.ownsRow base 55 2 r (l ++ gapOf a b).length ((l ++ gapOf a b).flatMap runC)) ∧ w.grownBy w' v.ownBlock := by
  have HO := hown
  obtain ⟨av, kv, rfl⟩ := own_form hown
  by_cases h : a = b
  · subst h
    have e1 : l ++ gapOf a a = l := by simp [gapOf]
    rw [e1]
    go_enter Try.func36, Try.ntmps36
    go_wp2
    go_ret
    exact ⟨⟨_, rfl, HO⟩, World.grownBy.refl _ _⟩
  · have e1 : l ++ gapOf a b = l ++ [(a, b - a)] := by simp [gapOf, h]
    rw [e1]
    have h' : (a == b) = false := beq_eq_false_iff_ne.2 h
    obtain ⟨ii, hii, hz0, hz1, hz2⟩ := infoRun_parts
    generalize hk : l.length = k at *
    go_enter Try.func36, Try.ntmps36
    go_wp2_with (at_builtin; refine wpList_append_lies _ rfl _ _ _ rfl base 55 ii _ 2 16 Try.underlying43 hii hz0 hz1 hz2 rfl (by omega) (.slice av k kv) k (l.flatMap runC) rfl (HO.alloc _) ⟨w.heap.size, 0, none⟩ 1 1 [.int .i64 a, .int .i64 (b - a)] rfl rfl (World.news_of_block (cs := #[.int .i64 a, .int .i64 (b - a)]) (t := 55) (fr := (0, 0)) (CellsAt.new w 55 #[.int .i64 a, .int .i64 (b - a)])) (by simp [Value.oneCell']) (by omega) (by unfold maxLen; omega) (by omega) (by simp; omega) (w.heap.size + 1) (by simp) ?_; intro g gc w8 hown8 hgrow hat hltg)
    go_ret
    refine ⟨⟨_, rfl, ?_⟩, (World.grownBy_alloc w _ _).trans hgrow⟩
    rw [List.length_append, List.flatMap_append, hk]
    exact hown8

end Go.Proofs.Ytaklbnabgcglhac
