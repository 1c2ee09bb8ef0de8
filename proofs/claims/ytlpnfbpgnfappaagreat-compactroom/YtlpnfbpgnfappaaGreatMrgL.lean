/- Texts that are laid together. -/
import Derived.Shelf.Strings.Repeat
import Derived.Ground.NamesProg
import Derived.Test.YtlpnfbpgnfappaaGreatProg
import Derived.Test.YtlpnfbpgnfappaaGreatMrgG
import Derived.Test.YtlpnfbpgnfappaaGreatMrgC
import Derived.Lib.QuietBelow
import Derived.Laws.EntriesVeiled
import Derived.Test.YtlpnfbpgnfappaaGreatMrgH
import Derived.Test.YtlpnfbpgnfappaaGreatMrgD
import Derived.Test.YtlpnfbpgnfappaaGreatMrgK
import Derived.BigQuiet

/- The contract of strings.Repeat, over the library's. -/
namespace Go.Proofs.YtlpnfbpgnfappaaGreat
open Go.Shelf Go.RowKit

set_option maxRecDepth 100000

def repL_ren : Go.Shelf.Ren := ⟨fun | 105 => 186 | 212 => 208 | 99 => 209 | 165 => 210 | 166 => 211 | 170 => 212 | 169 => 213 | 263 => 230 | 264 => 231 | 206 => 232 | 240 => 233 | 241 => 234 | 276 => 242 | 277 => 243 | n => n, fun | 9 => 9 | 3 => 3 | 4 => 4 | 20 => 20 | 0 => 0 | 46 => 204 | 109 => 232 | 5 => 5 | 72 => 237 | 76 => 241 | 51 => 224 | 146 => 256 | 53 => 226 | 148 => 258 | 70 => 235 | 37 => 117 | 75 => 240 | 127 => 244 | 164 => 266 | 80 => 122 | n => n, fun | n => n⟩
theorem repL : Go.Proofs.Lays.n105 Tryz.prog repL_ren := {
  mixed := by kernel_rfl
  f99 := Tryz.func209.trans (congrArg some (by kernel_rfl))
  f105 := Tryz.func186.trans (congrArg some (by kernel_rfl))
  f165 := Tryz.func210.trans (congrArg some (by kernel_rfl))
  f166 := Tryz.func211.trans (congrArg some (by kernel_rfl))
  f169 := Tryz.func213.trans (congrArg some (by kernel_rfl))
  f170 := Tryz.func212.trans (congrArg some (by kernel_rfl))
  f206 := Tryz.func232.trans (congrArg some (by kernel_rfl))
  f212 := Tryz.func208.trans (congrArg some (by kernel_rfl))
  f240 := Tryz.func233.trans (congrArg some (by kernel_rfl))
  f241 := Tryz.func234.trans (congrArg some (by kernel_rfl))
  f263 := Tryz.func230.trans (congrArg some (by kernel_rfl))
  f264 := Tryz.func231.trans (congrArg some (by kernel_rfl))
  f276 := Tryz.func242.trans (congrArg some (by kernel_rfl))
  f277 := Tryz.func243.trans (congrArg some (by kernel_rfl))
  t0 := Tryz.underlying0
  a0 := Tryz.isAgg0
  z0 := Tryz.sizeOf0
  v0 := Tryz.zeroValue0
  t3 := Tryz.underlying3
  a3 := Tryz.isAgg3
  z3 := Tryz.sizeOf3
  v3 := Tryz.zeroValue3
  t4 := Tryz.underlying4
  a4 := Tryz.isAgg4
  z4 := Tryz.sizeOf4
  v4 := Tryz.zeroValue4
  t5 := Tryz.underlying5
  a5 := Tryz.isAgg5
  z5 := Tryz.sizeOf5
  v5 := Tryz.zeroValue5
  t9 := Tryz.underlying9
  a9 := Tryz.isAgg9
  z9 := Tryz.sizeOf9
  v9 := Tryz.zeroValue9
  t20 := Tryz.underlying20
  a20 := Tryz.isAgg20
  z20 := Tryz.sizeOf20
  v20 := Tryz.zeroValue20
  t37 := Tryz.underlying117
  a37 := Tryz.isAgg117
  z37 := Tryz.sizeOf117
  v37 := Tryz.zeroValue117
  t46 := Tryz.underlying204
  a46 := Tryz.isAgg204
  z46 := Tryz.sizeOf204
  v46 := Tryz.zeroValue204
  t51 := Tryz.underlying224
  a51 := Tryz.isAgg224
  z51 := Tryz.sizeOf224
  v51 := Tryz.zeroValue224
  t53 := Tryz.underlying226
  a53 := Tryz.isAgg226
  z53 := Tryz.sizeOf226
  v53 := Tryz.zeroValue226
  t70 := Tryz.underlying235
  a70 := Tryz.isAgg235
  z70 := Tryz.sizeOf235
  v70 := Tryz.zeroValue235
  t72 := Tryz.underlying237
  a72 := Tryz.isAgg237
  z72 := Tryz.sizeOf237
  v72 := Tryz.zeroValue237
  t75 := Tryz.underlying240
  a75 := Tryz.isAgg240
  z75 := Tryz.sizeOf240
  v75 := Tryz.zeroValue240
  t76 := Tryz.underlying241
  a76 := Tryz.isAgg241
  z76 := Tryz.sizeOf241
  v76 := Tryz.zeroValue241
  t109 := Tryz.underlying232
  a109 := Tryz.isAgg232
  z109 := Tryz.sizeOf232
  v109 := Tryz.zeroValue232
  t127 := Tryz.underlying244
  a127 := Tryz.isAgg244
  z127 := Tryz.sizeOf244
  v127 := Tryz.zeroValue244
  t146 := Tryz.underlying256
  a146 := Tryz.isAgg256
  z146 := Tryz.sizeOf256
  v146 := Tryz.zeroValue256
  t148 := Tryz.underlying258
  a148 := Tryz.isAgg258
  z148 := Tryz.sizeOf258
  v148 := Tryz.zeroValue258
  t164 := Tryz.underlying266
  a164 := Tryz.isAgg266
  z164 := Tryz.sizeOf266
  v164 := Tryz.zeroValue266 }

theorem repX : Builder.Extra Tryz.prog repL_ren where
  sizeBuilder := by kernel_rfl
  liesBuilder := by kernel_rfl
  t5 := repL.t5
  a5 := repL.a5
  z5 := repL.z5
  v5 := repL.v5
  infoByte := by kernel_rfl
  cellsByte := by kernel_rfl
  sizeByte := by kernel_rfl
  neB5 := by decide

theorem repeat_any (s : ByteArray) (c : Nat) (w : World) (hc : c ≤ 9223372036854775807) (hlen : s.size * c ≤ 140737488355328) :
    Calls Tryz.prog 186 #[.string s, .int .i64 c] w fun e w' => e = .returned (.string ⟨(Lib.repeatL s.data.toList c).toArray⟩) ∧ Below w.heap.size w w' :=
  Any.strings_Repeat repL repX s c w hc hlen

end Go.Proofs.YtlpnfbpgnfappaaGreat

/- The contracts of region's small functions: sectors, outside, gap; Size. -/
namespace Go.Proofs.YtlpnfbpgnfappaaGreat
open Go.RowKit Go.PlainAid

set_option maxRecDepth 100000

set_option maxHeartbeats 1000000 in
theorem sectors_any (N T : ByteArray) (ma mi : Int) (pe pi pp : Option Addr) (le ke li ki lp kp : Nat) (w : World) (hT : T.size ≤ 256) :
    Calls Tryz.prog 65 #[.agg #[.string N, .int .i64 ma, .int .i64 mi, .string T, .slice pe le ke, .slice pi li ki, .slice pp lp kp]] w fun e w' => e = .returned (.int .i64 (((T.size + 63) / 64 : Nat) : Int)) ∧ Below w.heap.size w w' := by
  have e1 : ((T.size : Int) + 64 - 1) / 64 = (((T.size + 63) / 64 : Nat) : Int) := by omega
  go_enter Tryz.func65, Tryz.ntmps65
  go_wp2
  go_ret
  refine ⟨?_, (Below.refl _ _).alloc (Nat.le_refl _) _⟩
  show Ending.returned (.int .i64 (((T.size : Int) + 64 - 1) / 64)) = _
  rw [e1]

set_option maxHeartbeats 1000000 in
theorem size_any (M : Mod) (v : Value) (w : World) (hM : IsMod w.heap.size w v M) (hf : M.fits) :
    Calls Tryz.prog 18 #[v] w fun e w' => e = .returned (.tuple #[.int .i64 (if chkMod M = 0 then (szM M : Int) else 0), .int .i64 (chkMod M)]) ∧ Below w.heap.size w w' := by
  have HC : Hid (∀ W, Below w.heap.size w W → Calls Tryz.prog 64 #[v] W fun e w' => e = .returned (.int .i64 (chkMod M)) ∧ Below W.heap.size W w') := fun W hb => check_any M v W ((hM.below hb).more hb.size) hf
  have HT : chkMod M = 0 → M.text.size ≤ 256 := fun h => (szM_bd h).2.2.1
  have hsz : Hid (szM M = (M.text.size + 63) / 64) := rfl
  have key : (chkMod M = 0 ∧ (if chkMod M = 0 then (szM M : Int) else 0) = (szM M : Int)) ∨ (chkMod M ≠ 0 ∧ (if chkMod M = 0 then (szM M : Int) else 0) = 0) := by
    by_cases h : chkMod M = 0
    · exact .inl ⟨h, if_pos h⟩
    · exact .inr ⟨h, if_neg h⟩
  generalize (if chkMod M = 0 then (szM M : Int) else 0) = R at *
  generalize szM M = sz at *
  generalize chkMod M = cm at *
  obtain ⟨ve, vi, vp, rfl, hE, hI, hP⟩ := hM
  obtain ⟨pe, ke, rfl, _, _⟩ := hE
  obtain ⟨pi, ki, rfl, _, _⟩ := hI
  obtain ⟨pp, kp, rfl, _, _⟩ := hP
  obtain ⟨N, ma, mi, T, es, is, ps⟩ := M
  dsimp only at *
  generalize es.length = le at *
  generalize is.length = li at *
  generalize ps.length = lp at *
  have HB : Hid (Below w.heap.size w (w.alloc (.cells #[.string N, .int .i64 ma, .int .i64 mi, .string T, .slice pe le ke, .slice pi li ki, .slice pp lp kp] 31))) := (Below.refl _ _).alloc (Nat.le_refl _) _
  have HCA : Hid (CellsAt (w.alloc (.cells #[.string N, .int .i64 ma, .int .i64 mi, .string T, .slice pe le ke, .slice pi li ki, .slice pp lp kp] 31)) w.heap.size 31 #[.string N, .int .i64 ma, .int .i64 mi, .string T, .slice pe le ke, .slice pi li ki, .slice pp lp kp]) := CellsAt.new _ _ _
  go_enter Tryz.func18, Tryz.ntmps18
  go_wp2_with fail
  refine (HC.out _ HB.out).mono ?_
  rintro e w2 ⟨rfl, b2⟩
  have B2 := HB.out.trans (b2.mono HB.out.size)
  have C2 := HCA.out.below b2 HCA.out.lt
  clear HB HCA b2 HC
  rcases key with ⟨rfl, rfl⟩ | ⟨h0, rfl⟩
  · have hT : T.size ≤ 256 := by first | exact HT rfl | exact HT trivial | exact HT
    have t0 := C2.cell 0
    have t1 := C2.cell 1
    have t2 := C2.cell 2
    have t3 := C2.cell 3
    have t4 := C2.cell 4
    have t5 := C2.cell 5
    have t6 := C2.cell 6
    simp at t0 t1 t2 t3 t4 t5 t6
    clear C2 HT
    go_wp2_with fail
    refine (sectors_any _ _ _ _ _ _ _ _ _ _ _ _ _ _ hT).mono ?_
    rintro e w3 ⟨rfl, b3⟩
    have B3 := B2.trans (b3.mono B2.size)
    clear b3 t0 t1 t2 t3 t4 t5 t6
    rw [← hsz.out]
    clear hsz
    go_wp2
    go_ret2
    exact ⟨rfl, B3⟩
  · have h0' : (cm != 0) = true := by simpa using h0
    clear C2 HT h0
    go_wp2
    go_ret2
    exact ⟨rfl, B2⟩

set_option maxHeartbeats 1000000 in
theorem outside_any (x : PV) (n₀ : Nat) (w : World) (hat : PlcAt n₀ w x) (h0 : chkMod x.mod = 0) :
    Calls Tryz.prog 122 #[x.val] w fun e w' => e = .returned (.int .i64 (outErr x.plc)) ∧ Below w.heap.size w w' := by
  have hT : x.mod.text.size ≤ 256 := (szM_bd h0).2.2.1
  have key : (x.first < 0 ∧ outErr x.plc = 3) ∨ (0 ≤ x.first ∧ 16 - (szM x.mod : Int) < x.first ∧ outErr x.plc = 3) ∨ (0 ≤ x.first ∧ x.first ≤ 16 - (szM x.mod : Int) ∧ outErr x.plc = 0) := by
    unfold outErr PV.plc
    dsimp only
    by_cases g1 : x.first < 0
    · exact .inl ⟨g1, if_pos (.inl g1)⟩
    by_cases g2 : 16 - (szM x.mod : Int) < x.first
    · exact .inr (.inl ⟨by omega, g2, if_pos (.inr g2)⟩)
    · exact .inr (.inr ⟨by omega, by omega, if_neg (by omega)⟩)
  have hsz : szM x.mod = (x.mod.text.size + 63) / 64 := rfl
  have hs4 := (szM_bd h0).2.1
  generalize szM x.mod = sz at *
  generalize outErr x.plc = oe at *
  unfold PV.val
  obtain ⟨⟨pe, ke, e4, _⟩, ⟨pi, ki, e5, _⟩, ⟨pp, kp, e6, _⟩⟩ := hat
  obtain ⟨⟨N, ma, mi, T, es, is, ps⟩, ve, vi, vp, fi⟩ := x
  dsimp only at *
  subst e4 e5 e6
  generalize es.length = le at *
  generalize is.length = li at *
  generalize ps.length = lp at *
  clear h0
  have HS : Hid (∀ W, Calls Tryz.prog 65 #[.agg #[.string N, .int .i64 ma, .int .i64 mi, .string T, .slice pe le ke, .slice pi li ki, .slice pp lp kp]] W fun e w' => e = .returned (.int .i64 (sz : Int)) ∧ Below W.heap.size W w') := fun W => by
    rw [hsz]
    exact sectors_any _ _ _ _ _ _ _ _ _ _ _ _ _ _ hT
  clear hsz
  have C2 : CellsAt (w.alloc (.cells #[.string N, .int .i64 ma, .int .i64 mi, .string T, .slice pe le ke, .slice pi li ki, .slice pp lp kp, .int .i64 fi] 57)) w.heap.size 57 #[.string N, .int .i64 ma, .int .i64 mi, .string T, .slice pe le ke, .slice pi li ki, .slice pp lp kp, .int .i64 fi] := CellsAt.new _ _ _
  have B2 : Below w.heap.size w (w.alloc (.cells #[.string N, .int .i64 ma, .int .i64 mi, .string T, .slice pe le ke, .slice pi li ki, .slice pp lp kp, .int .i64 fi] 57)) := (Below.refl _ _).alloc (Nat.le_refl _) _
  have t0 := cell_regrown (C2.cell 0)
  have t1 := cell_regrown (C2.cell 1)
  have t2 := cell_regrown (C2.cell 2)
  have t3 := cell_regrown (C2.cell 3)
  have t4 := cell_regrown (C2.cell 4)
  have t5 := cell_regrown (C2.cell 5)
  have t6 := cell_regrown (C2.cell 6)
  have t7 := cell_regrown (C2.cell 7)
  clear C2
  rcases key with ⟨h1, rfl⟩ | ⟨h1, h2, rfl⟩ | ⟨h1, h2, rfl⟩
  · go_enter Tryz.func122, Tryz.ntmps122
    go_wp2_with fail
    generalize w.alloc (.cells #[.string N, .int .i64 ma, .int .i64 mi, .string T, .slice pe le ke, .slice pi li ki, .slice pp lp kp, .int .i64 fi] 57) = W1 at t0 t1 t2 t3 t4 t5 t6 t7 B2 ⊢
    refine wp_region_quiet_below (by kernel_rfl) (by kernel_rfl) ?_
    repeat (quiet_step ((go_at_call 65; go_must (exact Calls.regrown_of (HS.out _)))))
    refine wpQuiet_nil ?_
    intro _ hw'
    obtain ⟨⟨dq, osq⟩, hw''⟩ := hw'
    have B5 := B2.trans ((below_regrown W1 dq osq).mono B2.size)
    rw [← hw''] at B5
    clear hw''
    go_wp2
    go_ret
    exact ⟨rfl, B5⟩
  · have h1' : decide (fi < 0) = false := decide_eq_false (by omega)
    go_enter Tryz.func122, Tryz.ntmps122
    go_wp2_with fail
    generalize w.alloc (.cells #[.string N, .int .i64 ma, .int .i64 mi, .string T, .slice pe le ke, .slice pi li ki, .slice pp lp kp, .int .i64 fi] 57) = W1 at t0 t1 t2 t3 t4 t5 t6 t7 B2 ⊢
    have i1 : IntKind.i64.wrap (16 - (sz : Int)) = 16 - (sz : Int) := by rw [i64_is]; unfold wrap64; omega
    refine wp_region_quiet_below (by kernel_rfl) (by kernel_rfl) ?_
    repeat (quiet_step ((go_at_call 65; go_must (exact Calls.regrown_of (HS.out _)))))
    refine wpQuiet_nil ?_
    intro _ hw'
    obtain ⟨⟨dq, osq⟩, hw''⟩ := hw'
    have B5 := B2.trans ((below_regrown W1 dq osq).mono B2.size)
    rw [← hw''] at B5
    clear hw''
    go_wp2
    go_ret
    exact ⟨rfl, B5⟩
  · have h1' : decide (fi < 0) = false := decide_eq_false (by omega)
    have h2' : decide (16 - (sz : Int) < fi) = false := decide_eq_false (by omega)
    go_enter Tryz.func122, Tryz.ntmps122
    go_wp2_with fail
    generalize w.alloc (.cells #[.string N, .int .i64 ma, .int .i64 mi, .string T, .slice pe le ke, .slice pi li ki, .slice pp lp kp, .int .i64 fi] 57) = W1 at t0 t1 t2 t3 t4 t5 t6 t7 B2 ⊢
    have i1 : IntKind.i64.wrap (16 - (sz : Int)) = 16 - (sz : Int) := by rw [i64_is]; unfold wrap64; omega
    refine wp_region_quiet_below (by kernel_rfl) (by kernel_rfl) ?_
    repeat (quiet_step ((go_at_call 65; go_must (exact Calls.regrown_of (HS.out _)))))
    refine wpQuiet_nil ?_
    intro _ hw'
    obtain ⟨⟨dq, osq⟩, hw''⟩ := hw'
    have B5 := B2.trans ((below_regrown W1 dq osq).mono B2.size)
    rw [← hw''] at B5
    clear hw''
    go_wp2
    go_ret
    exact ⟨rfl, B5⟩

def runC (r : Int × Int) : List Value := [.int .i64 r.1, .int .i64 r.2]
def runCell (r : Int × Int) : Nat → Value
  | 0 => .int .i64 r.1
  | _ => .int .i64 r.2
theorem runC_at (x : Int × Int) (i : Nat) (hi : i < 2) : (runC x)[i]? = some (runCell x i) := by
  have : i = 0 ∨ i = 1 := by omega
  rcases this with rfl | rfl <;> rfl
theorem infoRun : (Tryz.prog.info? 48).map (fun i => (i.zero, i.size, i.bytes)) = some (some (.agg #[.int .i64 0, .int .i64 0]), 2, 16) := by kernel_rfl
theorem infoRun_parts : ∃ i, Tryz.prog.info? 48 = some i ∧ i.zero = some (.agg #[.int .i64 0, .int .i64 0]) ∧ i.size = 2 ∧ i.bytes = 16 := by
  have h := infoRun
  cases hi : Tryz.prog.info? 48 with
  | none => rw [hi] at h; cases h
  | some i =>
    rw [hi] at h
    simp at h
    exact ⟨i, rfl, h.1, h.2.1, h.2.2⟩

set_option maxHeartbeats 1000000 in
theorem gap_any (l : List (Int × Int)) (a b : Int) (v : Value) (base : Nat) (w : World) (hown : w.ownsRow base 48 2 v l.length (l.flatMap runC)) (hb : base ≤ w.heap.size) (hl : l.length ≤ 16) (ha : 0 ≤ a ∧ a ≤ 16) (hb2 : 0 ≤ b ∧ b ≤ 16) :
    Calls Tryz.prog 67 #[v, .int .i64 a, .int .i64 b] w fun e w' => (∃ r, e = .returned r ∧ w'.ownsRow base 48 2 r (l ++ gapOf a b).length ((l ++ gapOf a b).flatMap runC)) ∧ w.grownBy w' v.ownBlock := by
  have HO := hown
  obtain ⟨av, kv, rfl⟩ := own_form hown
  by_cases h : a = b
  · subst h
    have e1 : l ++ gapOf a a = l := by simp [gapOf]
    rw [e1]
    go_enter Tryz.func67, Tryz.ntmps67
    go_wp2
    go_ret
    exact ⟨⟨_, rfl, HO⟩, World.grownBy.refl _ _⟩
  · have e1 : l ++ gapOf a b = l ++ [(a, b - a)] := by simp [gapOf, h]
    rw [e1]
    have h' : (a == b) = false := beq_eq_false_iff_ne.2 h
    obtain ⟨ii, hii, hz0, hz1, hz2⟩ := infoRun_parts
    generalize hk : l.length = k at *
    go_enter Tryz.func67, Tryz.ntmps67
    go_wp2_with (at_builtin; refine wpList_append_lies _ rfl _ _ _ rfl base 48 ii _ 2 16 Tryz.underlying44 hii hz0 hz1 hz2 rfl (by omega) (.slice av k kv) k (l.flatMap runC) rfl (HO.alloc _) ⟨w.heap.size, 0, none⟩ 1 1 [.int .i64 a, .int .i64 (b - a)] rfl rfl (World.news_of_block (cs := #[.int .i64 a, .int .i64 (b - a)]) (t := 48) (fr := (0, 0)) (CellsAt.new w 48 #[.int .i64 a, .int .i64 (b - a)])) (by simp [Value.oneCell']) (by omega) (by unfold maxLen; omega) (by omega) (by simp; omega) (w.heap.size + 1) (by simp) ?_; intro g gc w8 hown8 hgrow hat hltg)
    go_ret
    refine ⟨⟨_, rfl, ?_⟩, (World.grownBy_alloc w _ _).trans hgrow⟩
    rw [List.length_append, List.flatMap_append, hk]
    exact hown8

end Go.Proofs.YtlpnfbpgnfappaaGreat

/- The contracts of region.wrong and region.Free. -/
namespace Go.Proofs.YtlpnfbpgnfappaaGreat
open Go.RowKit Go.PlainAid

set_option maxRecDepth 100000

def bErr (b : Bool) : Int := if b = false then 4 else 0
theorem chkReg_cases (L : List Plc) : ((if 8 < L.length then 2 else chkBy outErr L) ≠ 0 ∧ chkReg L = (if 8 < L.length then 2 else chkBy outErr L)) ∨ ((if 8 < L.length then 2 else chkBy outErr L) = 0 ∧ (∀ p ∈ L, chkMod p.mod = 0 ∧ 0 ≤ p.first ∧ p.first + szM p.mod ≤ 16) ∧ chkReg L = bErr (behind 0 L)) := by
  unfold chkReg
  by_cases h8 : 8 < L.length
  · left
    simp [h8]
  · rw [if_neg h8, if_neg h8]
    by_cases h : chkBy outErr L = 0
    · right
      refine ⟨h, fun p hp => ?_, by rw [if_neg (by omega)]; rfl⟩
      obtain ⟨h1, h2⟩ := chkBy_zero.1 h p hp
      unfold outErr at h2
      split at h2
      · omega
      · exact ⟨h1, by omega, by omega⟩
    · left
      exact ⟨h, by rw [if_pos h]⟩

set_option maxHeartbeats 4000000 in
theorem regWrong_any (l : List PV) (v : Value) (w : World) (hrow : IsPlcs w.heap.size w v l) (hfit : ∀ x ∈ l, x.mod.fits) :
    Calls Tryz.prog 66 #[v] w fun e w' => e = .returned (.int .i64 (chkReg (l.map PV.plc))) ∧ Below w.heap.size w w' := by
  have HP : Hid (∀ (W : World) (t : TypeId), Below w.heap.size w W → Calls Tryz.prog 121 #[v, .slice (some ⟨W.heap.size, 0, none⟩) 1 1] (W.alloc (.cells #[.func (.func 122) #[] #[]] t)) fun e w' => e = .returned (.int .i64 (if 8 < l.length then 2 else chkBy outErr (l.map PV.plc))) ∧ Below (W.heap.size + 1) (W.alloc (.cells #[.func (.func 122) #[] #[]] t)) w') := by
    intro W t hb
    have hb1 : Below w.heap.size w (W.alloc (.cells #[.func (.func 122) #[] #[]] t)) := hb.alloc hb.size _
    have := placedWrong_one l v W.heap.size 122 outErr (W.alloc (.cells #[.func (.func 122) #[] #[]] t)) ((hrow.below hb1).more hb1.size) hfit (by simp) (by simp) (fun w x => enters_of Tryz.func122 (by kernel_rfl) rfl _ w) (fun x hx h0 W' hb' => outside_any x _ W' (((hrow.2 x hx).below hb1).more hb1.size |>.below hb') h0)
    refine this.mono ?_
    rintro e w' ⟨rfl, b⟩
    exact ⟨rfl, by simpa using b⟩
  have hat := hrow.2
  obtain ⟨⟨a, cap, rfl, hmax, hrow⟩, _⟩ := hrow
  have key := chkReg_cases (l.map PV.plc)
  rw [List.length_map] at key
  have hall : (∀ p ∈ l.map PV.plc, chkMod p.mod = 0 ∧ 0 ≤ p.first ∧ p.first + szM p.mod ≤ 16) → ∀ x ∈ l, x.mod.text.size ≤ 256 ∧ 0 ≤ x.first ∧ x.first + szM x.mod ≤ 16 := by
    intro h x hx
    obtain ⟨h1, h2, h3⟩ := h x.plc (List.mem_map_of_mem hx)
    exact ⟨(szM_bd h1).2.2.1, h2, h3⟩
  generalize chkReg (l.map PV.plc) = R at *
  generalize (if 8 < l.length then (2 : Int) else chkBy outErr (l.map PV.plc)) = cp at *
  go_enter Tryz.func66, Tryz.ntmps66
  go_wp2_with fail
  refine (HP.out w _ (Below.refl _ _)).mono ?_
  rintro e w2 ⟨rfl, b2⟩
  have B2 := ((Below.refl w.heap.size w).alloc (Nat.le_refl _) _).trans (b2.mono (by omega))
  clear HP b2
  rcases key with ⟨h0, rfl⟩ | ⟨rfl, h0, rfl⟩
  · have h0' : (R != 0) = true := by simpa using h0
    clear hall hrow hat
    go_wp2
    go_ret
    exact ⟨rfl, B2⟩
  · have hx0 := hall h0
    clear hall h0
    go_wp2_with fail
    go_loopw [4, 15] (fun d i wr => ∃ (k : Nat) (e : Int), k ≤ l.length ∧ i = .int .i64 k ∧ d = .int .i64 e ∧ Hid (behind 0 (l.map PV.plc) = behind e ((l.drop k).map PV.plc)) ∧ Below w.heap.size w wr) (fun _ i _ => l.length - (intOf i).toNat)
    case atStart => exact ⟨0, 0, Nat.zero_le _, rfl, rfl, by show behind 0 (l.map PV.plc) = behind 0 ((l.drop 0).map PV.plc); rfl, B2⟩
    case round =>
      obtain ⟨k, en, hk, rfl, rfl, HC, B⟩ := hrel
      by_cases hlt : k < l.length
      · obtain ⟨x, hx⟩ : ∃ x, l[k]? = some x := ⟨_, List.getElem?_eq_getElem hlt⟩
        rcases hrow with h | ⟨b, off, rfl, hbn, hcells⟩
        · subst h; simp at hlt
        have HR : Hid (behind 0 (l.map PV.plc) = (!decide (x.first < en) && behind (x.first + szM x.mod) ((l.drop (k + 1)).map PV.plc))) := by
          show behind 0 (l.map PV.plc) = _
          rw [HC.out, drop_at hx]; rfl
        have hxx := hx0 x (List.mem_of_getElem? hx)
        have HS : Hid (∀ W, Calls Tryz.prog 65 #[x.modV] W fun e w' => e = .returned (.int .i64 (szM x.mod : Int)) ∧ Below W.heap.size W w') := by
          intro W
          obtain ⟨⟨pe, ke, e4, _⟩, ⟨pi, ki, e5, _⟩, ⟨pp, kp, e6, _⟩⟩ := hat x (List.mem_of_getElem? hx)
          unfold PV.modV
          rw [e4, e5, e6]
          exact sectors_any _ _ _ _ _ _ _ _ _ _ _ _ _ _ hxx.1
        obtain ⟨⟨pe, ke, e4, _⟩, ⟨pi, ki, e5, _⟩, ⟨pp, kp, e6, _⟩⟩ := hat x (List.mem_of_getElem? hx)
        generalize hsz : szM x.mod = sz at *
        obtain ⟨⟨N, ma, mi, T, es, is, ps⟩, ve, vi, vp, fi⟩ := x
        dsimp only at e4 e5 e6
        subst e4 e5 e6
        have c0 := (B.cell (p := ⟨b, off + k * 8 + 0, none⟩) hbn).trans (hcells k _ hx 0 (by omega))
        have c1 := (B.cell (p := ⟨b, off + k * 8 + 1, none⟩) hbn).trans (hcells k _ hx 1 (by omega))
        have c2 := (B.cell (p := ⟨b, off + k * 8 + 2, none⟩) hbn).trans (hcells k _ hx 2 (by omega))
        have c3 := (B.cell (p := ⟨b, off + k * 8 + 3, none⟩) hbn).trans (hcells k _ hx 3 (by omega))
        have c4 := (B.cell (p := ⟨b, off + k * 8 + 4, none⟩) hbn).trans (hcells k _ hx 4 (by omega))
        have c5 := (B.cell (p := ⟨b, off + k * 8 + 5, none⟩) hbn).trans (hcells k _ hx 5 (by omega))
        have c6 := (B.cell (p := ⟨b, off + k * 8 + 6, none⟩) hbn).trans (hcells k _ hx 6 (by omega))
        have c7 := (B.cell (p := ⟨b, off + k * 8 + 7, none⟩) hbn).trans (hcells k _ hx 7 (by omega))
        dsimp only [PV.cell] at c0 c1 c2 c3 c4 c5 c6 c7
        dsimp only [PV.modV] at HS
        dsimp only at hxx HR
        rw [Nat.add_zero] at c0
        clear HC hcells hx hat hsz hx0
        obtain ⟨_, hf0, hf1⟩ := hxx
        generalize es.length = le at *
        generalize is.length = li at *
        generalize ps.length = lp at *
        have C2 : CellsAt (wr.alloc (.cells #[.string N, .int .i64 ma, .int .i64 mi, .string T, .slice pe le ke, .slice pi li ki, .slice pp lp kp, .int .i64 fi] 57)) wr.heap.size 57 #[.string N, .int .i64 ma, .int .i64 mi, .string T, .slice pe le ke, .slice pi li ki, .slice pp lp kp, .int .i64 fi] := CellsAt.new _ _ _
        have BB : Below w.heap.size w (wr.alloc (.cells #[.string N, .int .i64 ma, .int .i64 mi, .string T, .slice pe le ke, .slice pi li ki, .slice pp lp kp, .int .i64 fi] 57)) := B.alloc B.size _
        by_cases hb : fi < en
        · have HZ : Hid (behind 0 (l.map PV.plc) = false) := by
            show behind 0 (l.map PV.plc) = false
            rw [HR.out, decide_eq_true hb]; rfl
          clear HR HS C2
          go_wp2
          go_ret
          exact ⟨by rw [HZ.out]; rfl, BB⟩
        · have hb' : decide (fi < en) = false := decide_eq_false hb
          have HZ : Hid (behind 0 (l.map PV.plc) = behind (fi + sz) ((l.drop (k + 1)).map PV.plc)) := by
            show behind 0 (l.map PV.plc) = _
            rw [HR.out, hb']; rfl
          clear HR
          have t0 := cell_regrown (C2.cell 0)
          have t1 := cell_regrown (C2.cell 1)
          have t2 := cell_regrown (C2.cell 2)
          have t3 := cell_regrown (C2.cell 3)
          have t4 := cell_regrown (C2.cell 4)
          have t5 := cell_regrown (C2.cell 5)
          have t6 := cell_regrown (C2.cell 6)
          have t7 := cell_regrown (C2.cell 7)
          clear C2
          go_wp2_with fail
          generalize wr.alloc (.cells #[.string N, .int .i64 ma, .int .i64 mi, .string T, .slice pe le ke, .slice pi li ki, .slice pp lp kp, .int .i64 fi] 57) = W1 at t0 t1 t2 t3 t4 t5 t6 t7 BB ⊢
          have i1 : IntKind.i64.wrap (fi + (sz : Int)) = fi + (sz : Int) := by rw [i64_is]; unfold wrap64; omega
          refine wp_region_quiet_below (by kernel_rfl) (by kernel_rfl) ?_
          repeat (quiet_step ((go_at_call 65; go_must (exact Calls.regrown_of (HS.out _)))))
          refine wpQuiet_nil ?_
          intro _ hw'
          obtain ⟨⟨dq, osq⟩, hw''⟩ := hw'
          have B5 := BB.trans ((below_regrown W1 dq osq).mono BB.size)
          rw [← hw''] at B5
          clear hw'' t0 t1 t2 t3 t4 t5 t6 t7 HS
          go_wp2
          exact ⟨⟨k + 1, fi + sz, by omega, by go_num, by first | rfl | (rw [i1]), HZ.out, B5⟩, by simp [intOf]; omega⟩
      · obtain rfl : k = l.length := by omega
        have HZ : Hid (behind 0 (l.map PV.plc) = true) := by
          show behind 0 (l.map PV.plc) = true
          rw [HC.out, List.drop_length]; rfl
        go_wp2
        go_ret
        exact ⟨by rw [HZ.out]; rfl, B⟩

end Go.Proofs.YtlpnfbpgnfappaaGreat

/- The contract of slices.IndexFunc at runs. -/
namespace Go.Proofs.YtlpnfbpgnfappaaGreat
open Go.RowKit Go.PlainAid

set_option maxRecDepth 100000

set_option maxHeartbeats 1000000 in
theorem idxRun_any (l : List (Int × Int)) (v : Value) (K : FuncId) (c : Value) (hK : ∀ w x, Sem.run Tryz.prog (callFunc K #[x, c]) w = .ok (.enter K #[x, c]) w) (p : Int × Int → Bool) (w : World) (hrow : RowOf 2 runCell w.heap.size w v l)
    (hp : ∀ x ∈ l, ∀ W, Below w.heap.size w W → Calls Tryz.prog K #[.agg #[.int .i64 x.1, .int .i64 x.2], c] W fun e W' => e = .returned (.bool (p x)) ∧ Below W.heap.size W W') :
    Calls Tryz.prog 93 #[v, .func (.func K) #[] #[c]] w fun e w' => e = .returned (.int .i64 (ixFrom p 0 l)) ∧ Below w.heap.size w w' := by
  obtain ⟨a, cap, rfl, _, hrow⟩ := hrow
  go_enter Tryz.func93, Tryz.ntmps93
  go_wp2
  go_loopw [8] (fun i wr => ∃ (k : Nat), k ≤ l.length ∧ i = .int .i64 k ∧ Hid (ixFrom p 0 l = ixFrom p k (l.drop k)) ∧ Below w.heap.size w wr) (fun i _ => l.length - (intOf i).toNat)
  case atStart => exact ⟨0, Nat.zero_le _, rfl, by show ixFrom p 0 l = ixFrom p 0 (l.drop 0); rfl, Below.refl _ _⟩
  case round =>
    obtain ⟨k, hk, rfl, HC, B⟩ := hrel
    by_cases hlt : k < l.length
    · obtain ⟨x, hx⟩ : ∃ x, l[k]? = some x := ⟨_, List.getElem?_eq_getElem hlt⟩
      rcases hrow with h | ⟨b, off, rfl, hbn, hcells⟩
      · subst h; simp at hlt
      have HP := hp x (List.mem_of_getElem? hx)
      obtain ⟨nm, ps⟩ := x
      have c0 := (B.cell (p := ⟨b, off + k * 2 + 0, none⟩) hbn).trans (hcells k _ hx 0 (by omega))
      have c1 := (B.cell (p := ⟨b, off + k * 2 + 1, none⟩) hbn).trans (hcells k _ hx 1 (by omega))
      dsimp only [runCell] at c0 c1
      rw [Nat.add_zero] at c0
      have HR : Hid (ixFrom p 0 l = if p ⟨nm, ps⟩ then (k : Int) else ixFrom p (k + 1) (l.drop (k + 1))) := by
        show ixFrom p 0 l = _
        rw [HC.out, drop_at hx]; rfl
      have HP' : Hid (∀ W, Below w.heap.size w W → Calls Tryz.prog K #[.agg #[.int .i64 nm, .int .i64 ps], c] W fun e W' => e = .returned (.bool (p ⟨nm, ps⟩)) ∧ Below W.heap.size W W') := HP
      clear HC hcells hx HP
      generalize p ⟨nm, ps⟩ = t at HR HP'
      go_wp2_with fail
      refine Calls.mono (HP'.out _ B) ?_
      rintro e w2 ⟨rfl, b2⟩
      have B2 := B.trans (b2.mono B.size)
      clear b2 HP' c0 c1
      cases t
      · go_wp2
        exact ⟨⟨k + 1, by omega, by go_num, HR.out, B2⟩, by simp [intOf]; omega⟩
      · go_wp2
        go_ret
        exact ⟨by rw [HR.out]; rfl, B2⟩
    · obtain rfl : k = l.length := by omega
      have HZ : Hid (ixFrom p 0 l = -1) := by
        show ixFrom p 0 l = -1
        rw [HC.out, List.drop_length]; rfl
      go_wp2
      go_ret
      exact ⟨by rw [HZ.out]; rfl, B⟩

end Go.Proofs.YtlpnfbpgnfappaaGreat

/- The contracts of region.Free and region.First. -/
namespace Go.Proofs.YtlpnfbpgnfappaaGreat
open Go.RowKit Go.PlainAid

set_option maxRecDepth 100000

theorem own_ne {W : World} {base : Nat} {e : TypeId} {size : Nat} {v : Value} {n : Nat} {xs : List Value} (h : W.ownsRow base e size v n xs) : some W.heap.size ≠ v.ownBlock := by
  rcases h.2 with ⟨rfl, _⟩ | ⟨g, cap, cur, rfl, hg, hc, _⟩
  · simp [Value.ownBlock]
  · have := (Array.getElem?_eq_some_iff.1 hc).1
    simp [Value.ownBlock]
    omega
def freeRes (L : List Plc) : List (Int × Int) := if chkReg L = 0 then runsFrom 0 L else []
theorem freeRes_cases (L : List Plc) : (chkReg L ≠ 0 ∧ freeRes L = []) ∨ (chkReg L = 0 ∧ L.length ≤ 8 ∧ (∀ p ∈ L, p.mod.text.size ≤ 256 ∧ 0 ≤ p.first ∧ p.first + szM p.mod ≤ 16) ∧ freeRes L = runsFrom 0 L) := by
  unfold freeRes
  by_cases h : chkReg L = 0
  · right
    obtain ⟨h1, h2, h3⟩ := chkReg_zero.1 h
    refine ⟨h, h1, fun p hp => ?_, by rw [if_pos h]⟩
    have := okPl_first h3 p hp
    exact ⟨(szM_bd (h2 p hp)).2.2.1, by omega, by omega⟩
  · left
    exact ⟨h, by rw [if_neg h]⟩

set_option maxHeartbeats 4000000 in
theorem free_own (l : List PV) (v : Value) (w : World) (hrow : IsPlcs w.heap.size w v l) (hfit : ∀ x ∈ l, x.mod.fits) :
    Calls Tryz.prog 19 #[v] w fun e w' => (∃ r, e = .returned (.tuple #[r, .int .i64 (chkReg (l.map PV.plc))]) ∧ RowOf 2 runCell w'.heap.size w' r (freeRes (l.map PV.plc)) ∧ w'.ownsRow w.heap.size 48 2 r (freeRes (l.map PV.plc)).length ((freeRes (l.map PV.plc)).flatMap runC)) ∧ Below w.heap.size w w' := by
  have HW : Hid (∀ W, Below w.heap.size w W → Calls Tryz.prog 66 #[v] W fun e w' => e = .returned (.int .i64 (chkReg (l.map PV.plc))) ∧ Below W.heap.size W w') := fun W hb => regWrong_any l v W ((hrow.below hb).more hb.size) hfit
  have hat := hrow.2
  obtain ⟨⟨a, cap, rfl, hmax, hrow⟩, _⟩ := hrow
  have key := freeRes_cases (l.map PV.plc)
  rw [List.length_map] at key
  have hall : (∀ p ∈ l.map PV.plc, p.mod.text.size ≤ 256 ∧ 0 ≤ p.first ∧ p.first + szM p.mod ≤ 16) → ∀ x ∈ l, x.mod.text.size ≤ 256 ∧ 0 ≤ x.first ∧ x.first + szM x.mod ≤ 16 := fun h x hx => h x.plc (List.mem_map_of_mem hx)
  generalize chkReg (l.map PV.plc) = R at *
  generalize freeRes (l.map PV.plc) = FR at *
  go_enter Tryz.func19, Tryz.ntmps19
  go_wp2_with fail
  refine (HW.out w (Below.refl _ _)).mono ?_
  rintro e w5 ⟨rfl, B5⟩
  clear HW
  rcases key with ⟨h0, rfl⟩ | ⟨rfl, h8, h0, rfl⟩
  · have h0' : (R != 0) = true := by simpa using h0
    clear hall hrow hat h0
    go_wp2
    go_ret2
    exact ⟨⟨_, rfl, ⟨none, 0, rfl, by simp, .inl rfl⟩, World.ownsRow_nil _ _ _ _⟩, B5⟩
  · have hx0 := hall h0
    clear hall h0
    go_wp2_with fail
    go_loopw [5, 6, 16] (fun f d i wr => ∃ (k : Nat) (e : Int) (acc : List (Int × Int)), k ≤ l.length ∧ i = .int .i64 k ∧ d = .int .i64 e ∧ 0 ≤ e ∧ e ≤ 16 ∧ acc.length ≤ k ∧ wr.ownsRow w5.heap.size 48 2 f acc.length (acc.flatMap runC) ∧ Hid (runsFrom 0 (l.map PV.plc) = acc ++ runsFrom e ((l.drop k).map PV.plc)) ∧ Below w5.heap.size w5 wr) (fun _ _ i _ => l.length - (intOf i).toNat)
    case atStart => exact ⟨0, 0, [], Nat.zero_le _, rfl, rfl, by omega, by omega, Nat.zero_le _, ⟨rfl, .inl ⟨rfl, rfl⟩⟩, by show runsFrom 0 (l.map PV.plc) = [] ++ runsFrom 0 ((l.drop 0).map PV.plc); rfl, Below.refl _ _⟩
    case round =>
      obtain ⟨k, en, acc, hk, rfl, rfl, he0, he1, hal, hown, HC, B⟩ := hrel
      have B' : Below w.heap.size w wr := B5.trans (B.mono B5.size)
      obtain ⟨av, kv, rfl⟩ := own_form hown
      by_cases hlt : k < l.length
      · obtain ⟨x, hx⟩ : ∃ x, l[k]? = some x := ⟨_, List.getElem?_eq_getElem hlt⟩
        rcases hrow with h | ⟨b, off, rfl, hbn, hcells⟩
        · subst h; simp at hlt
        have HR : Hid (runsFrom 0 (l.map PV.plc) = (acc ++ gapOf en x.first) ++ runsFrom (x.first + szM x.mod) ((l.drop (k + 1)).map PV.plc)) := by
          show runsFrom 0 (l.map PV.plc) = _
          rw [HC.out, drop_at hx, List.append_assoc]; rfl
        have hxx := hx0 x (List.mem_of_getElem? hx)
        have HS : Hid (∀ W, Calls Tryz.prog 65 #[x.modV] W fun e w' => e = .returned (.int .i64 (szM x.mod : Int)) ∧ Below W.heap.size W w') := by
          intro W
          obtain ⟨⟨pe, ke, e4, _⟩, ⟨pi, ki, e5, _⟩, ⟨pp, kp, e6, _⟩⟩ := hat x (List.mem_of_getElem? hx)
          unfold PV.modV
          rw [e4, e5, e6]
          exact sectors_any _ _ _ _ _ _ _ _ _ _ _ _ _ _ hxx.1
        obtain ⟨⟨pe, ke, e4, _⟩, ⟨pi, ki, e5, _⟩, ⟨pp, kp, e6, _⟩⟩ := hat x (List.mem_of_getElem? hx)
        generalize hsz : szM x.mod = sz at *
        obtain ⟨⟨N, ma, mi, T, es, is, ps⟩, ve, vi, vp, fi⟩ := x
        dsimp only at e4 e5 e6
        subst e4 e5 e6
        have c0 := (B'.cell (p := ⟨b, off + k * 8 + 0, none⟩) hbn).trans (hcells k _ hx 0 (by omega))
        have c1 := (B'.cell (p := ⟨b, off + k * 8 + 1, none⟩) hbn).trans (hcells k _ hx 1 (by omega))
        have c2 := (B'.cell (p := ⟨b, off + k * 8 + 2, none⟩) hbn).trans (hcells k _ hx 2 (by omega))
        have c3 := (B'.cell (p := ⟨b, off + k * 8 + 3, none⟩) hbn).trans (hcells k _ hx 3 (by omega))
        have c4 := (B'.cell (p := ⟨b, off + k * 8 + 4, none⟩) hbn).trans (hcells k _ hx 4 (by omega))
        have c5 := (B'.cell (p := ⟨b, off + k * 8 + 5, none⟩) hbn).trans (hcells k _ hx 5 (by omega))
        have c6 := (B'.cell (p := ⟨b, off + k * 8 + 6, none⟩) hbn).trans (hcells k _ hx 6 (by omega))
        have c7 := (B'.cell (p := ⟨b, off + k * 8 + 7, none⟩) hbn).trans (hcells k _ hx 7 (by omega))
        dsimp only [PV.cell] at c0 c1 c2 c3 c4 c5 c6 c7
        dsimp only [PV.modV] at HS
        dsimp only at hxx HR
        rw [Nat.add_zero] at c0
        clear HC hcells hx hat hsz hx0
        obtain ⟨_, hf0, hf1⟩ := hxx
        generalize es.length = le at *
        generalize is.length = li at *
        generalize ps.length = lp at *
        have C2 : Hid (CellsAt (wr.alloc (.cells #[.string N, .int .i64 ma, .int .i64 mi, .string T, .slice pe le ke, .slice pi li ki, .slice pp lp kp, .int .i64 fi] 57)) wr.heap.size 57 #[.string N, .int .i64 ma, .int .i64 mi, .string T, .slice pe le ke, .slice pi li ki, .slice pp lp kp, .int .i64 fi]) := CellsAt.new _ _ _
        have BB : Hid (Below w5.heap.size w5 (wr.alloc (.cells #[.string N, .int .i64 ma, .int .i64 mi, .string T, .slice pe le ke, .slice pi li ki, .slice pp lp kp, .int .i64 fi] 57))) := B.alloc B.size _
        have HO : Hid ((wr.alloc (.cells #[.string N, .int .i64 ma, .int .i64 mi, .string T, .slice pe le ke, .slice pi li ki, .slice pp lp kp, .int .i64 fi] 57)).ownsRow w5.heap.size 48 2 (.slice av acc.length kv) acc.length (acc.flatMap runC)) := hown.alloc _
        have HNE : Hid (some wr.heap.size ≠ (Value.slice av acc.length kv).ownBlock) := own_ne hown
        have HL : Hid (acc.length ≤ 16) := show acc.length ≤ 16 by omega
        have HLK : Hid (acc.length ≤ k) := hal
        clear hown
        go_wp2_with fail
        refine (gap_any acc en fi _ w5.heap.size _ HO.out BB.out.size HL.out ⟨he0, he1⟩ ⟨hf0, by omega⟩).mono ?_
        rintro e w7 ⟨⟨r, rfl, O7⟩, hg⟩
        have C7 := C2.out.kept hg HNE.out
        have B7 : Below w5.heap.size w5 w7 := BB.out.grown hg BB.out.size (fun j hj => own_block HO.out j hj)
        clear C2 BB HO HNE hg c0 c1 c2 c3 c4 c5 c6 c7
        obtain ⟨ar, kr, rfl⟩ := own_form O7
        have HL' : Hid ((acc ++ gapOf en fi).length ≤ k + 1) := by
          show (acc ++ gapOf en fi).length ≤ k + 1
          have := HLK.out
          unfold gapOf
          split <;> simp <;> omega
        generalize acc ++ gapOf en fi = acc' at *
        have t0 := cell_regrown (C7.cell 0)
        have t1 := cell_regrown (C7.cell 1)
        have t2 := cell_regrown (C7.cell 2)
        have t3 := cell_regrown (C7.cell 3)
        have t4 := cell_regrown (C7.cell 4)
        have t5 := cell_regrown (C7.cell 5)
        have t6 := cell_regrown (C7.cell 6)
        have t7 := cell_regrown (C7.cell 7)
        clear C7
        go_wp2_with fail
        have i1 : IntKind.i64.wrap (fi + (sz : Int)) = fi + (sz : Int) := by rw [i64_is]; unfold wrap64; omega
        refine wp_region_quiet_below (by kernel_rfl) (by kernel_rfl) ?_
        repeat (quiet_step ((go_at_call 65; go_must (exact Calls.regrown_of (HS.out _)))))
        refine wpQuiet_nil ?_
        intro w8 hw'
        obtain ⟨⟨dq, osq⟩, hw''⟩ := hw'
        have b8 := below_regrown w7 dq osq
        rw [← hw''] at b8
        have O8 := own_below O7 b8
        have B8 := B7.trans (b8.mono B7.size)
        clear hw'' t0 t1 t2 t3 t4 t5 t6 t7 HS O7 b8
        go_wp2
        exact ⟨⟨k + 1, fi + sz, acc', by omega, by go_num, by first | rfl | (rw [i1]), by omega, by omega, HL'.out, O8, HR.out, B8⟩, by simp [intOf]; omega⟩
      · obtain rfl : k = l.length := by omega
        have HZ : Hid (runsFrom 0 (l.map PV.plc) = acc ++ gapOf en 16) := by
          show runsFrom 0 (l.map PV.plc) = _
          rw [HC.out, List.drop_length]; rfl
        have hb5 : w5.heap.size ≤ wr.heap.size := B.size
        have HO := hown
        have hl16 : acc.length ≤ 16 := by omega
        clear hx0
        go_wp2_with fail
        refine (gap_any acc en 16 _ w5.heap.size _ HO hb5 hl16 ⟨he0, he1⟩ ⟨by omega, by omega⟩).mono ?_
        rintro e w7 ⟨⟨r, rfl, O7⟩, hg⟩
        have B7 : Below w5.heap.size w5 w7 := B.grown hg B.size (fun j hj => own_block HO j hj)
        obtain ⟨ar, kr, rfl⟩ := own_form O7
        have HLN : Hid ((acc ++ gapOf en 16).length ≤ 9223372036854775807) := by
          show (acc ++ gapOf en 16).length ≤ 9223372036854775807
          unfold gapOf
          split <;> simp <;> omega
        generalize acc ++ gapOf en 16 = acc' at *
        clear HO hown
        go_wp2
        go_ret2
        exact ⟨⟨_, rfl, by rw [HZ.out]; exact own_rows (C := runC) (cells := runCell) (sz := 2) (fun _ => rfl) runC_at O7 HLN.out, by rw [HZ.out]; exact own_down O7 B5.size⟩, B5.trans (B7.mono B5.size)⟩
theorem free_any (l : List PV) (v : Value) (w : World) (hrow : IsPlcs w.heap.size w v l) (hfit : ∀ x ∈ l, x.mod.fits) :
    Calls Tryz.prog 19 #[v] w fun e w' => (∃ r, e = .returned (.tuple #[r, .int .i64 (chkReg (l.map PV.plc))]) ∧ RowOf 2 runCell w'.heap.size w' r (freeRes (l.map PV.plc))) ∧ Below w.heap.size w w' := by
  refine (free_own l v w hrow hfit).mono ?_
  rintro e w' ⟨⟨r, h1, h2, _⟩, hb⟩
  exact ⟨⟨r, h1, h2⟩, hb⟩

def firstRes (L : List Plc) (many : Int) : Int × Int := if chkReg L ≠ 0 then (0, chkReg L) else if many < 1 ∨ 16 < many then (0, 3) else match fitOf many (runsFrom 0 L) with | none => (0, 8) | some r => (r.1, 0)
theorem firstRes_cases (L : List Plc) (many : Int) : (chkReg L ≠ 0 ∧ firstRes L many = (0, chkReg L)) ∨ (chkReg L = 0 ∧ many < 1 ∧ firstRes L many = (0, 3)) ∨ (chkReg L = 0 ∧ 1 ≤ many ∧ 16 < many ∧ firstRes L many = (0, 3)) ∨ (chkReg L = 0 ∧ 1 ≤ many ∧ many ≤ 16 ∧ freeRes L = runsFrom 0 L ∧ firstRes L many = match fitOf many (freeRes L) with | none => (0, 8) | some r => (r.1, 0)) := by
  unfold firstRes
  by_cases h : chkReg L = 0
  · right
    have h3 : freeRes L = runsFrom 0 L := by unfold freeRes; rw [if_pos h]
    rw [if_neg (by omega)]
    by_cases h1 : many < 1
    · exact .inl ⟨h, h1, by rw [if_pos (.inl h1)]⟩
    · by_cases h2 : 16 < many
      · exact .inr (.inl ⟨h, by omega, h2, by rw [if_pos (.inr h2)]⟩)
      · refine .inr (.inr ⟨h, by omega, by omega, h3, ?_⟩)
        rw [if_neg (by omega), h3]
  · left
    exact ⟨h, by rw [if_pos h]⟩

set_option maxHeartbeats 1000000 in
theorem first1_any (x : Int × Int) (B : Nat) (many : Int) (w : World) (hB : B < w.heap.size) (hc : w.cell? ⟨B, 0, none⟩ = some (.int .i64 many)) :
    Calls Tryz.prog 94 #[.agg #[.int .i64 x.1, .int .i64 x.2], .pointer (some ⟨B, 0, none⟩)] w fun e w' => e = .returned (.bool (decide (many ≤ x.2))) ∧ Below w.heap.size w w' := by
  obtain ⟨a, b⟩ := x
  dsimp only
  have hc' : (w.alloc (.cells #[.int .i64 a, .int .i64 b] 48)).cell? ⟨B, 0, none⟩ = some (.int .i64 many) := (((Below.refl w.heap.size w).alloc (Nat.le_refl _) _).cell (p := ⟨B, 0, none⟩) hB).trans hc
  generalize hd : decide (many ≤ b) = d
  go_enter Tryz.func94, Tryz.ntmps94
  go_wp2
  go_ret
  refine ⟨?_, (Below.refl _ _).alloc (Nat.le_refl _) _⟩
  first | rfl | (rw [← hd]; rfl)

set_option maxHeartbeats 2000000 in
theorem first_any (l : List PV) (v : Value) (many : Int) (w : World) (hrow : IsPlcs w.heap.size w v l) (hfit : ∀ x ∈ l, x.mod.fits) :
    Calls Tryz.prog 39 #[v, .int .i64 many] w fun e w' => e = .returned (.tuple #[.int .i64 (firstRes (l.map PV.plc) many).1, .int .i64 (firstRes (l.map PV.plc) many).2]) ∧ Below w.heap.size w w' := by
  have HF : Hid (∀ W, Below w.heap.size w W → Calls Tryz.prog 19 #[v] W fun e w' => (∃ r, e = .returned (.tuple #[r, .int .i64 (chkReg (l.map PV.plc))]) ∧ RowOf 2 runCell w'.heap.size w' r (freeRes (l.map PV.plc))) ∧ Below W.heap.size W w') := fun W hb => free_any l v W ((hrow.below hb).more hb.size) hfit
  have key := firstRes_cases (l.map PV.plc) many
  obtain ⟨⟨a, cap, rfl, hmax, hrow⟩, _⟩ := hrow
  generalize runsFrom 0 (l.map PV.plc) = RF at *
  generalize firstRes (l.map PV.plc) many = R at *
  generalize chkReg (l.map PV.plc) = c at *
  generalize freeRes (l.map PV.plc) = FR at *
  clear hrow hfit
  generalize l.length = ll at *
  have HB : Hid (Below w.heap.size w (w.alloc (.cells #[.int .i64 many] 3))) := (Below.refl _ _).alloc (Nat.le_refl _) _
  have HCA : Hid (CellsAt (w.alloc (.cells #[.int .i64 many] 3)) w.heap.size 3 #[.int .i64 many]) := CellsAt.new _ _ _
  go_enter Tryz.func39, Tryz.ntmps39
  go_wp2_with fail
  refine (HF.out _ HB.out).mono ?_
  rintro e w2 ⟨⟨r, rfl, hR⟩, b2⟩
  have C2 := HCA.out.below b2 HCA.out.lt
  have B2 := HB.out.trans (b2.mono HB.out.size)
  have t0 := C2.cell 0
  simp at t0
  have tz := C2.lt
  clear HF HB HCA b2 C2
  have HRW := hR
  obtain ⟨ar, kr, rfl, hml, hR⟩ := hR
  rcases key with ⟨h0, rfl⟩ | ⟨rfl, h0, rfl⟩ | ⟨rfl, h0, h1, rfl⟩ | ⟨rfl, h0, h1, rfl, hm⟩
  · have h0' : (c != 0) = true := by simpa using h0
    clear h0 hR HRW
    go_wp2
    go_ret2
    exact ⟨rfl, B2⟩
  · clear hR HRW
    go_wp2
    go_ret2
    exact ⟨rfl, B2⟩
  · have h0' : decide (many < 1) = false := decide_eq_false (by omega)
    clear hR HRW
    go_wp2
    go_ret2
    exact ⟨rfl, B2⟩
  · have h0' : decide (many < 1) = false := decide_eq_false (by omega)
    have h1' : decide (16 < many) = false := decide_eq_false (by omega)
    have HI : Hid (Calls Tryz.prog 93 #[.slice ar FR.length kr, .func (.func 94) #[] #[.pointer (some ⟨w.heap.size, 0, none⟩)]] w2 fun e w' => e = .returned (.int .i64 (ixFrom (fun r => decide (many ≤ r.2)) 0 FR)) ∧ Below w2.heap.size w2 w') :=
      idxRun_any FR _ 94 _ (fun w x => enters_of Tryz.func94 (by kernel_rfl) rfl _ w) (fun r => decide (many ≤ r.2)) w2 HRW (fun x hx W hb => first1_any x w.heap.size many W (Nat.lt_of_lt_of_le tz hb.size) ((hb.cell (p := ⟨w.heap.size, 0, none⟩) tz).trans t0))
    have hfi := ix_find (fun r : Int × Int => decide (many ≤ r.2)) FR 0
    unfold fitOf at hm
    generalize ixFrom (fun r : Int × Int => decide (many ≤ r.2)) 0 FR = ix at *
    have HM : Hid (R = match FR.find? (fun r => decide (many ≤ r.2)) with | none => ((0 : Int), (8 : Int)) | some r => (r.1, 0)) := hm
    clear hm HRW
    rcases hfi with ⟨g1, rfl⟩ | ⟨j, x, g1, g2, rfl⟩
    · have HM' : R = (0, 8) := by rw [HM.out, g1]
      subst HM'
      clear HM g1
      go_wp2_with fail
      refine HI.out.mono ?_
      rintro e w3 ⟨rfl, b3⟩
      have B3 := B2.trans (b3.mono B2.size)
      clear HI b3
      go_wp2
      go_ret2
      exact ⟨rfl, B3⟩
    · have HM' : R = (x.1, 0) := by rw [HM.out, g1]
      subst HM'
      clear HM g1
      have hj : j < FR.length := (List.getElem?_eq_some_iff.1 g2).1
      rcases hR with h | ⟨b, off, rfl, hbn, hcells⟩
      · subst h; simp at hj
      have d0 := hcells j _ g2 0 (by omega)
      dsimp only [runCell] at d0
      rw [Nat.add_zero] at d0
      have hjn : decide (((0 + j : Nat) : Int) < 0) = false := decide_eq_false (by omega)
      rw [Nat.zero_add] at HI hjn
      clear hcells g2
      go_wp2_with fail
      refine HI.out.mono ?_
      rintro e w3 ⟨rfl, b3⟩
      have B3 := B2.trans (b3.mono B2.size)
      have d1 := (b3.cell (p := ⟨b, off + j * 2, none⟩) hbn).trans d0
      clear HI b3 d0 t0
      go_wp2
      go_ret2
      exact ⟨rfl, B3⟩

end Go.Proofs.YtlpnfbpgnfappaaGreat

/- The contracts of package link's inner calls: filled, patched, image, wrong. -/
namespace Go.Proofs.YtlpnfbpgnfappaaGreat
open Go.RowKit Go.PlainAid

set_option maxRecDepth 100000

set_option maxHeartbeats 1000000 in
theorem filled_any (s : ByteArray) (k : Nat) (w : World) (hk : k ≤ 16) (hs : s.size ≤ 64 * k) :
    Calls Tryz.prog 166 #[.string s, .int .i64 k] w fun e w' => e = .returned (.string (fillTo s (64 * k))) ∧ Below w.heap.size w w' := by
  have HR : Hid (∀ W, Calls Tryz.prog 186 #[.string ⟨#[255]⟩, .int .i64 ((64 * k - s.size : Nat) : Int)] W fun e w' => e = .returned (.string (blanks (64 * k - s.size))) ∧ Below W.heap.size W w') := fun W => by
    have := repeat_any ⟨#[255]⟩ (64 * k - s.size) W (by omega) (by show 1 * _ ≤ _; omega)
    rw [repeat_blank] at this
    exact this
  have HF : Hid (s ++ blanks (64 * k - s.size) = fillTo s (64 * k)) := (rfl : s ++ blanks (64 * k - s.size) = fillTo s (64 * k))
  have hbs : Hid ((blanks (64 * k - s.size)).size ≤ 1024) := by show (blanks (64 * k - s.size)).size ≤ 1024; rw [blanks_size]; omega
  have i1 : IntKind.i64.wrap ((k : Int) * 64) = (k : Int) * 64 := by rw [i64_is]; unfold wrap64; omega
  have i2 : IntKind.i64.wrap ((k : Int) * 64 - (s.size : Int)) = ((64 * k - s.size : Nat) : Int) := by rw [i64_is]; unfold wrap64; omega
  generalize 64 * k - s.size = n at *
  generalize blanks n = b at *
  generalize fillTo s (64 * k) = f at *
  have hb := hbs.out
  have hbig : ¬ (9223372036854775807 < s.size + b.size) := by omega
  clear hbs
  go_enter Tryz.func166, Tryz.ntmps166
  go_wp2_with fail
  refine (HR.out _).mono ?_
  rintro e w1 ⟨rfl, b1⟩
  go_wp2
  go_ret
  exact ⟨by rw [HF.out]; rfl, b1⟩

theorem pats_of {M : Mod} (h : chkMod M = 0) : ∀ p ∈ M.pats, -1 ≤ p.sym ∧ p.sym < M.imps.length := by
  have h1 : chkPats M.text.size M.imps.length 0 M.pats = 0 := by
    rcases chkMod_cases M with ⟨_, e⟩ | ⟨g1, ⟨_, e⟩ | ⟨g2, ⟨_, e⟩ | ⟨_, ⟨_, e⟩ | ⟨_, t1, t2, t3, t4, ⟨_, e⟩ | ⟨_, ⟨_, e⟩ | ⟨_, ⟨n, e⟩ | ⟨h7, ⟨n, e⟩ | ⟨_, e⟩⟩⟩⟩⟩⟩⟩⟩
    all_goals first | omega | exact absurd (e ▸ h) n | exact e ▸ h
  have : ∀ (l : List Pat) (e : Int), chkPats M.text.size M.imps.length e l = 0 → ∀ p ∈ l, -1 ≤ p.sym ∧ p.sym < M.imps.length := by
    intro l
    induction l with
    | nil => intro _ _ p hp; simp at hp
    | cons x l ih =>
      intro e h0 p hp
      unfold chkPats at h0
      by_cases hx : patErr M.text.size M.imps.length e x = 0
      · rw [if_pos hx] at h0
        rcases List.mem_cons.1 hp with rfl | hp
        · obtain ⟨K, A, S, D⟩ := p
          rcases patErr_cases M.text.size M.imps.length e K A S D with ⟨_, q⟩ | ⟨_, ⟨_, q⟩ | ⟨_, _, q⟩ | ⟨_, _, _, q⟩ | ⟨_, _, _, _, q⟩ | ⟨a, b, _⟩⟩
          all_goals first | (rw [hx] at q; exact absurd q (by decide)) | exact ⟨a, b⟩
        · exact ih _ h0 p hp
      · rw [if_neg hx] at h0
        exact absurd h0 hx
  exact this _ _ h1

set_option maxHeartbeats 4000000 in
theorem lnPatched_any (x : PV) (ads : List Int) (va : Value) (w : World) (hx : PlcAt w.heap.size w x) (hr : RowOf 1 intCell w.heap.size w va ads) (hm0 : chkMod x.mod = 0) (hal : ads.length = x.mod.imps.length) (f0 : 0 ≤ x.first) (f1 : x.first ≤ 15) :
    Calls Tryz.prog 207 #[.agg #[.string x.mod.name, .int .i64 x.mod.major, .int .i64 x.mod.minor, .string x.mod.text, x.ve, x.vi, x.vp, .int .i64 x.first, va]] w fun e w' => e = .returned (.tuple #[.string (patd ads (4096 + x.first * 64) x.mod.text x.mod.pats).1, .int .i64 (patd ads (4096 + x.first * 64) x.mod.text x.mod.pats).2]) ∧ Below w.heap.size w w' := by
  have hps := pats_of hm0
  have hT : x.mod.text.size ≤ 256 := (chkMod_exps hm0).2.1
  have h12 : x.mod.pats.length ≤ 12 := (chkMod_exps hm0).2.2.2.2.1
  have h6 : x.mod.imps.length ≤ 6 := (chkMod_exps hm0).2.2.2.1
  have HAD : Hid (∀ W, Calls Tryz.prog 172 #[.int .i64 x.first] W fun e w' => e = .returned (.int .i64 (4096 + x.first * 64)) ∧ w' = W) := fun W => addr_any x.first W f0 f1
  have hbeg : Hid (0 ≤ 4096 + x.first * 64 ∧ 4096 + x.first * 64 ≤ 6000) := show 0 ≤ 4096 + x.first * 64 ∧ 4096 + x.first * 64 ≤ 6000 by omega
  obtain ⟨⟨pe, ke, e4, _⟩, ⟨pi, ki, e5, _⟩, ⟨pp, kp, e6, _, hP⟩⟩ := hx
  obtain ⟨pa, ka, rfl, _, hA⟩ := hr
  obtain ⟨⟨N, ma, mi, T, es, is, ps⟩, ve, vi, vp, fi⟩ := x
  dsimp only at *
  subst e4 e5 e6
  generalize 4096 + fi * 64 = bg at *
  generalize es.length = le at *
  rw [← hal] at hps h6
  generalize is.length = li at *
  clear hm0 hal
  have HPN : Hid (∀ s, patd ads bg s [] = (s, 0)) := fun _ => rfl
  have HPC : Hid (∀ s p r, patd ads bg s (p :: r) = if appErr s.size p (symOf ads bg p) bg ≠ 0 then (⟨#[]⟩, appErr s.size p (symOf ads bg p) bg) else patd ads bg (appStr s p (symOf ads bg p) bg) r) := fun _ _ _ => rfl
  generalize patd ads bg = PD at *
  have B1 : Below w.heap.size w (w.alloc (.cells #[.string N, .int .i64 ma, .int .i64 mi, .string T, .slice pe le ke, .slice pi li ki, .slice pp ps.length kp, .int .i64 fi, .slice pa ads.length ka] 210)) := (Below.refl _ _).alloc (Nat.le_refl _) _
  have C1 : CellsAt (w.alloc (.cells #[.string N, .int .i64 ma, .int .i64 mi, .string T, .slice pe le ke, .slice pi li ki, .slice pp ps.length kp, .int .i64 fi, .slice pa ads.length ka] 210)) w.heap.size 210 #[.string N, .int .i64 ma, .int .i64 mi, .string T, .slice pe le ke, .slice pi li ki, .slice pp ps.length kp, .int .i64 fi, .slice pa ads.length ka] := CellsAt.new _ _ _
  go_enter Tryz.func207, Tryz.ntmps207
  go_wp2_with fail
  go_quiet ((go_at_call 172; go_must (refine Calls.quiet_of_same (HAD.out _))))
  have B2 := below_drewN B1 nq
  have C2 := C1.below (below_drewN (Below.refl (w.heap.size + 1) (w.alloc (.cells #[.string N, .int .i64 ma, .int .i64 mi, .string T, .slice pe le ke, .slice pi li ki, .slice pp ps.length kp, .int .i64 fi, .slice pa ads.length ka] 210))) nq) (Nat.lt_succ_self _)
  generalize (w.alloc (.cells #[.string N, .int .i64 ma, .int .i64 mi, .string T, .slice pe le ke, .slice pi li ki, .slice pp ps.length kp, .int .i64 fi, .slice pa ads.length ka] 210)).drewN nq = w2 at *
  clear B1 C1 HAD
  have e6 := C2.cell 6
  simp at e6
  go_wp2_with fail
  go_loopw [4, 23] (fun f i wr => ∃ (k : Nat) (S : ByteArray), k ≤ ps.length ∧ i = .int .i64 k ∧ f = .string S ∧ Hid (S.size = T.size) ∧ Hid (PD T ps = PD S (ps.drop k)) ∧ Below w2.heap.size w2 wr) (fun _ i _ => ps.length - (intOf i).toNat)
  case atStart => exact ⟨0, T, Nat.zero_le _, rfl, rfl, (rfl : T.size = T.size), (by show PD T ps = PD T (ps.drop 0); rfl), Below.refl _ _⟩
  case round =>
    obtain ⟨k, S, hk, rfl, rfl, HSZ, HCC, B⟩ := hrel
    have B' : Below w.heap.size w wr := B2.trans (B.mono B2.size)
    by_cases hlt : k < ps.length
    · obtain ⟨x, hx⟩ : ∃ x, ps[k]? = some x := ⟨_, List.getElem?_eq_getElem hlt⟩
      rcases hP with h | ⟨b, off, rfl, hbn, hcells⟩
      · subst h; simp at hlt
      have c0 := (B'.cell (p := ⟨b, off + k * 4 + 0, none⟩) hbn).trans (hcells k _ hx 0 (by omega))
      have c1 := (B'.cell (p := ⟨b, off + k * 4 + 1, none⟩) hbn).trans (hcells k _ hx 1 (by omega))
      have c2 := (B'.cell (p := ⟨b, off + k * 4 + 2, none⟩) hbn).trans (hcells k _ hx 2 (by omega))
      have c3 := (B'.cell (p := ⟨b, off + k * 4 + 3, none⟩) hbn).trans (hcells k _ hx 3 (by omega))
      have HR : Hid (PD T ps = if appErr S.size x (symOf ads bg x) bg ≠ 0 then (⟨#[]⟩, appErr S.size x (symOf ads bg x) bg) else PD (appStr S x (symOf ads bg x) bg) (ps.drop (k + 1))) := by
        show PD T ps = _
        rw [HCC.out, drop_at hx, HPC.out]
      have HAX : Hid (∀ sy W, Calls Tryz.prog 229 #[.string S, .agg #[.int .i64 x.kind, .int .i64 x.pos, .int .i64 x.sym, .int .i64 x.add], .int .i64 sy, .int .i64 bg] W fun e w' => e = .returned (.tuple #[.string (appStr S x sy bg), .int .i64 (appErr S.size x sy bg)]) ∧ Below W.heap.size W w') := fun sy W => apply_any S x sy bg W (by rw [HSZ.out]; omega)
      have HSS : Hid (∀ sy, appErr S.size x sy bg = 0 → (appStr S x sy bg).size = T.size) := fun sy h => by rw [appStr_size h, HSZ.out]
      obtain ⟨hs1, hs2⟩ := hps x (List.mem_of_getElem? hx)
      have HSY : Hid (∃ sy : Int, symOf ads bg x = sy ∧ ((0 ≤ x.sym ∧ ∃ n : Nat, x.sym = n ∧ ads[n]? = some sy) ∨ (x.sym < 0 ∧ sy = bg))) := by
        refine ⟨_, rfl, ?_⟩
        unfold symOf
        by_cases h0 : 0 ≤ x.sym
        · refine .inl ⟨h0, x.sym.toNat, by omega, ?_⟩
          rw [if_pos h0, List.getElem?_eq_getElem (by omega)]
          rfl
        · exact .inr ⟨by omega, by rw [if_neg h0]⟩
      obtain ⟨sy, hsy, hcase⟩ := HSY.out
      have HR' : Hid (PD T ps = if appErr S.size x sy bg ≠ 0 then (⟨#[]⟩, appErr S.size x sy bg) else PD (appStr S x sy bg) (ps.drop (k + 1))) := by
        show PD T ps = _
        rw [HR.out, hsy]
      have HAX' : Hid (∀ W, Calls Tryz.prog 229 #[.string S, .agg #[.int .i64 x.kind, .int .i64 x.pos, .int .i64 x.sym, .int .i64 x.add], .int .i64 sy, .int .i64 bg] W fun e w' => e = .returned (.tuple #[.string (appStr S x sy bg), .int .i64 (appErr S.size x sy bg)]) ∧ Below W.heap.size W w') := HAX.out sy
      have HSS' : Hid (appErr S.size x sy bg = 0 → (appStr S x sy bg).size = T.size) := HSS.out sy
      have HHY : Hid (S.size = T.size) := HSZ
      have CB := C2.below B C2.lt
      have d8 := CB.cell 8
      simp at d8
      have hwl : w.heap.size < wr.heap.size := CB.lt
      clear HR HAX HSS HSY hsy HCC hcells hps HSZ HPN HPC CB e6
      generalize appErr S.size x sy bg = er at *
      generalize appStr S x sy bg = S' at *
      obtain ⟨xk, xp, xs, xa⟩ := x
      dsimp only [Pat.cell] at c0 c1 c2 c3
      dsimp only at *
      rw [Nat.add_zero] at c0
      have HB6 : Hid (Below w2.heap.size w2 (wr.alloc (.cells #[.int .i64 xk, .int .i64 xp, .int .i64 xs, .int .i64 xa] 113))) := B.alloc B.size _
      rcases hcase with ⟨h0, n, rfl, hn⟩ | ⟨h0, rfl⟩
      · rcases hA with h | ⟨ba, offa, rfl, hba, hca⟩
        · subst h; simp at hn
        have hnl : n < ads.length := by omega
        have d9 := (B'.cell (p := ⟨ba, offa + n * 1 + 0, none⟩) hba).trans (hca n _ hn 0 (by omega))
        dsimp only [intCell] at d9
        rw [Nat.add_zero, Nat.mul_one] at d9
        have hba2 : ba < wr.heap.size := Nat.lt_of_lt_of_le hba B'.size
        clear hca hn
        go_wp2_with fail
        refine (HAX'.out _).mono ?_
        rintro e w7 ⟨rfl, b7⟩
        have E7 := HB6.out.trans (b7.mono HB6.out.size)
        have F7 := B2.trans (E7.mono B2.size)
        by_cases hq : er = 0
        · subst hq
          have HR2 : Hid (PD T ps = PD S' (ps.drop (k + 1))) := by
            show PD T ps = _
            rw [HR'.out]; rfl
          have HS2 : Hid (S'.size = T.size) := HSS'.out rfl
          clear HR' HSS'
          go_wp2
          exact ⟨⟨k + 1, S', by omega, by go_num, rfl, HS2, HR2, E7⟩, by simp [intOf]; omega⟩
        · have hq' : (er != 0) = true := by simpa using hq
          have HR2 : Hid (PD T ps = (⟨#[]⟩, er)) := by
            show PD T ps = _
            rw [HR'.out, if_pos hq]
          clear HR' HSS' hq
          go_wp2
          go_ret2
          exact ⟨by rw [HR2.out]; rfl, F7⟩
      · go_wp2_with fail
        refine (HAX'.out _).mono ?_
        rintro e w7 ⟨rfl, b7⟩
        have E7 := HB6.out.trans (b7.mono HB6.out.size)
        have F7 := B2.trans (E7.mono B2.size)
        by_cases hq : er = 0
        · subst hq
          have HR2 : Hid (PD T ps = PD S' (ps.drop (k + 1))) := by
            show PD T ps = _
            rw [HR'.out]; rfl
          have HS2 : Hid (S'.size = T.size) := HSS'.out rfl
          clear HR' HSS'
          go_wp2
          exact ⟨⟨k + 1, S', by omega, by go_num, rfl, HS2, HR2, E7⟩, by simp [intOf]; omega⟩
        · have hq' : (er != 0) = true := by simpa using hq
          have HR2 : Hid (PD T ps = (⟨#[]⟩, er)) := by
            show PD T ps = _
            rw [HR'.out, if_pos hq]
          clear HR' HSS' hq
          go_wp2
          go_ret2
          exact ⟨by rw [HR2.out]; rfl, F7⟩
    · obtain rfl : k = ps.length := by omega
      have HZ : Hid (PD T ps = (S, 0)) := by
        show PD T ps = (S, 0)
        rw [HCC.out, List.drop_length, HPN.out]
      go_wp2
      go_ret2
      exact ⟨by rw [HZ.out]; rfl, B'⟩

end Go.Proofs.YtlpnfbpgnfappaaGreat
