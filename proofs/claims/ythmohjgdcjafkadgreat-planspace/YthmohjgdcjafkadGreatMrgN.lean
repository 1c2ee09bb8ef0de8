/- Texts that are laid together. -/
import Derived.Test.YthmohjgdcjafkadGreatMrgM
import Derived.Shelf.Strings.Repeat
import Derived.Ground.NamesProg
import Derived.Test.YthmohjgdcjafkadGreatProg
import Derived.Test.YthmohjgdcjafkadGreatMrgH
import Derived.Test.YthmohjgdcjafkadGreatMrgD
import Derived.Lib.QuietBelow
import Derived.Laws.EntriesVeiled
import Derived.Test.YthmohjgdcjafkadGreatMrgJ

/- Side by side, as data: a step, and all of them. -/
namespace Go.Proofs.YthmohjgdcjafkadGreat
open Go.RowKit Go.PlainAid

/-- The first module that does not begin where the one ahead ends, moved there. -/
def stepFrom : Int → List Plc → Option (List Plc)
  | _, [] => none
  | e, p :: r => if p.first = e then (stepFrom (e + szM p.mod) r).map (p :: ·) else some (⟨p.mod, e⟩ :: r)
/-- All modules side by side. -/
def packFrom : Int → List Plc → List Plc
  | _, [] => []
  | e, p :: r => ⟨p.mod, e⟩ :: packFrom (e + szM p.mod) r
/-- How many are to be moved. -/
def offFrom : Int → List Plc → Nat
  | _, [] => 0
  | e, p :: r => (if p.first = e then 0 else 1) + offFrom (e + szM p.mod) r
theorem step_some : ∀ {L L' : List Plc} {e : Int}, stepFrom e L = some L' → packFrom e L' = packFrom e L ∧ offFrom e L = offFrom e L' + 1 ∧ L'.map (·.mod) = L.map (·.mod)
  | [], _, _, h => by cases h
  | p :: r, L', e, h => by
    unfold stepFrom at h
    by_cases hp : p.first = e
    · rw [if_pos hp] at h
      obtain ⟨r', hr, rfl⟩ := Option.map_eq_some_iff.1 h
      obtain ⟨h1, h2, h3⟩ := step_some hr
      refine ⟨?_, ?_, ?_⟩
      · show _ :: packFrom _ r' = _ :: packFrom _ r
        rw [h1]
      · show _ + offFrom _ r = _ + offFrom _ r' + 1
        rw [h2]
        omega
      · rw [List.map_cons, List.map_cons, h3]
    · rw [if_neg hp] at h
      obtain rfl := Option.some.inj h
      refine ⟨rfl, ?_, rfl⟩
      show (if p.first = e then 0 else 1) + offFrom (e + szM p.mod) r = (if e = e then 0 else 1) + offFrom (e + szM p.mod) r + 1
      rw [if_neg hp, if_pos rfl]
      omega
theorem step_none : ∀ {L : List Plc} {e : Int}, stepFrom e L = none → packFrom e L = L ∧ offFrom e L = 0
  | [], _, _ => ⟨rfl, rfl⟩
  | p :: r, e, h => by
    unfold stepFrom at h
    by_cases hp : p.first = e
    · rw [if_pos hp] at h
      have hr : stepFrom (e + szM p.mod) r = none := by
        cases hs : stepFrom (e + szM p.mod) r with
        | none => rfl
        | some x => rw [hs] at h; cases h
      obtain ⟨h1, h2⟩ := step_none hr
      refine ⟨?_, ?_⟩
      · show (⟨p.mod, e⟩ : Plc) :: packFrom _ r = p :: r
        rw [h1, ← hp]
      · show (if p.first = e then 0 else 1) + offFrom _ r = 0
        rw [h2, if_pos hp]
    · rw [if_neg hp] at h
      cases h
theorem off_step : ∀ {L : List Plc} {e : Int}, offFrom e L ≠ 0 → ∃ L', stepFrom e L = some L' := by
  intro L e h
  cases hs : stepFrom e L with
  | none => exact absurd (step_none hs).2 h
  | some L' => exact ⟨L', rfl⟩
theorem off_le : ∀ (L : List Plc) (e : Int), offFrom e L ≤ L.length
  | [], _ => Nat.le_refl _
  | p :: r, e => by
    have := off_le r (e + szM p.mod)
    show (if p.first = e then 0 else 1) + offFrom _ r ≤ r.length + 1
    split <;> omega
theorem okPl_less : ∀ {L : List Plc} {e e' : Int}, e' ≤ e → okPl e L → okPl e' L
  | [], _, _, h, ho => Int.le_trans h ho
  | _ :: _, _, _, h, ⟨h1, h2, h3, h4⟩ => ⟨Int.le_trans h h1, h2, h3, h4⟩
/-- Behind a step modules still lie behind one another. -/
theorem step_ok : ∀ {L L' : List Plc} {e : Int}, okPl e L → stepFrom e L = some L' → okPl e L'
  | [], _, _, _, h => by cases h
  | p :: r, L', e, ⟨h1, h2, h3, h4⟩, h => by
    unfold stepFrom at h
    by_cases hp : p.first = e
    · rw [if_pos hp] at h
      obtain ⟨r', hr, rfl⟩ := Option.map_eq_some_iff.1 h
      refine ⟨h1, h2, h3, ?_⟩
      rw [hp] at h4 ⊢
      exact step_ok h4 hr
    · rw [if_neg hp] at h
      obtain rfl := Option.some.inj h
      exact ⟨Int.le_refl _, h2, by show e + (szM p.mod : Int) ≤ 16; omega, okPl_less (by show e + (szM p.mod : Int) ≤ _; omega) h4⟩

/-- What hangs on the modules alone. -/
theorem twice_mods : ∀ (L L' : List Plc) (met : List ByteArray), L'.map (·.mod) = L.map (·.mod) → twiceFrom met L' = twiceFrom met L
  | [], [], _, _ => rfl
  | [], _ :: _, _, h => by cases h
  | _ :: _, [], _, h => by cases h
  | p :: l, q :: l', met, h => by
    rw [List.map_cons, List.map_cons] at h
    injection h with h1 h2
    have hs : ∀ (p : Plc) l met, twiceFrom met (p :: l) = ((met.any fun y => y == p.mod.name) || twiceFrom (met ++ [p.mod.name]) l) := fun _ _ _ => rfl
    rw [hs, hs, h1, twice_mods l l' _ h2]
theorem chkBy_mods (L L' : List Plc) (h : L'.map (·.mod) = L.map (·.mod)) : chkBy (fun _ => 0) L' = chkBy (fun _ => 0) L := by
  have key : ∀ L : List Plc, chkBy (fun _ => 0) L = ((L.map (·.mod)).foldr (fun m a => if chkMod m ≠ 0 then chkMod m else a) 0) := by
    intro L
    induction L with
    | nil => rfl
    | cons p l ih =>
      have hs : chkBy (fun _ => 0) (p :: l) = if chkMod p.mod ≠ 0 then chkMod p.mod else if (0 : Int) ≠ 0 then 0 else chkBy (fun _ => 0) l := rfl
      rw [hs, ih]
      simp
  rw [key, key, h]
theorem ord_mods (L L' : List Plc) (h : L'.map (·.mod) = L.map (·.mod)) : ordOf L' = ordOf L := by
  have hl : L'.length = L.length := by have := congrArg List.length h; simpa using this
  unfold ordOf chkGraph plainErr risen
  rw [hl, chkBy_mods L L' h, twice_mods L L' [] h, h]

end Go.Proofs.YthmohjgdcjafkadGreat

/- The contract of strings.Repeat, over the library's. -/
namespace Go.Proofs.YthmohjgdcjafkadGreat
open Go.Shelf Go.RowKit

set_option maxRecDepth 100000

def repL_ren : Go.Shelf.Ren := ⟨fun | 105 => 80 | 212 => 125 | 99 => 126 | 165 => 127 | 166 => 128 | 170 => 129 | 169 => 130 | 263 => 156 | 264 => 157 | 206 => 158 | 240 => 159 | 241 => 160 | 276 => 181 | 277 => 182 | n => n, fun | 9 => 9 | 3 => 3 | 4 => 4 | 20 => 20 | 0 => 0 | 46 => 154 | 109 => 155 | 5 => 5 | 72 => 161 | 76 => 165 | 51 => 191 | 146 => 192 | 53 => 194 | 148 => 195 | 70 => 158 | 37 => 159 | 75 => 164 | 127 => 197 | 164 => 212 | 80 => 168 | n => n, fun | n => n⟩
theorem repL : Go.Proofs.Lays.n105 Tryz.prog repL_ren := {
  mixed := by kernel_rfl
  f99 := Tryz.func126.trans (congrArg some (by kernel_rfl))
  f105 := Tryz.func80.trans (congrArg some (by kernel_rfl))
  f165 := Tryz.func127.trans (congrArg some (by kernel_rfl))
  f166 := Tryz.func128.trans (congrArg some (by kernel_rfl))
  f169 := Tryz.func130.trans (congrArg some (by kernel_rfl))
  f170 := Tryz.func129.trans (congrArg some (by kernel_rfl))
  f206 := Tryz.func158.trans (congrArg some (by kernel_rfl))
  f212 := Tryz.func125.trans (congrArg some (by kernel_rfl))
  f240 := Tryz.func159.trans (congrArg some (by kernel_rfl))
  f241 := Tryz.func160.trans (congrArg some (by kernel_rfl))
  f263 := Tryz.func156.trans (congrArg some (by kernel_rfl))
  f264 := Tryz.func157.trans (congrArg some (by kernel_rfl))
  f276 := Tryz.func181.trans (congrArg some (by kernel_rfl))
  f277 := Tryz.func182.trans (congrArg some (by kernel_rfl))
  t0 := Tryz.underlying0
  a0 := Tryz.isAgg0
  z0 := Tryz.sizeOf0
  v0 := Tryz.zeroValue0
  t3 := Tryz.underlying3
  a3 := Tryz.isAgg3
  z3 := Tryz.sizeOf3
  v3 := Tryz.zeroValue3
  t4 := Tryz.underlying4
  a4 := Tryz.isAgg4
  z4 := Tryz.sizeOf4
  v4 := Tryz.zeroValue4
  t5 := Tryz.underlying5
  a5 := Tryz.isAgg5
  z5 := Tryz.sizeOf5
  v5 := Tryz.zeroValue5
  t9 := Tryz.underlying9
  a9 := Tryz.isAgg9
  z9 := Tryz.sizeOf9
  v9 := Tryz.zeroValue9
  t20 := Tryz.underlying20
  a20 := Tryz.isAgg20
  z20 := Tryz.sizeOf20
  v20 := Tryz.zeroValue20
  t37 := Tryz.underlying159
  a37 := Tryz.isAgg159
  z37 := Tryz.sizeOf159
  v37 := Tryz.zeroValue159
  t46 := Tryz.underlying154
  a46 := Tryz.isAgg154
  z46 := Tryz.sizeOf154
  v46 := Tryz.zeroValue154
  t51 := Tryz.underlying191
  a51 := Tryz.isAgg191
  z51 := Tryz.sizeOf191
  v51 := Tryz.zeroValue191
  t53 := Tryz.underlying194
  a53 := Tryz.isAgg194
  z53 := Tryz.sizeOf194
  v53 := Tryz.zeroValue194
  t70 := Tryz.underlying158
  a70 := Tryz.isAgg158
  z70 := Tryz.sizeOf158
  v70 := Tryz.zeroValue158
  t72 := Tryz.underlying161
  a72 := Tryz.isAgg161
  z72 := Tryz.sizeOf161
  v72 := Tryz.zeroValue161
  t75 := Tryz.underlying164
  a75 := Tryz.isAgg164
  z75 := Tryz.sizeOf164
  v75 := Tryz.zeroValue164
  t76 := Tryz.underlying165
  a76 := Tryz.isAgg165
  z76 := Tryz.sizeOf165
  v76 := Tryz.zeroValue165
  t109 := Tryz.underlying155
  a109 := Tryz.isAgg155
  z109 := Tryz.sizeOf155
  v109 := Tryz.zeroValue155
  t127 := Tryz.underlying197
  a127 := Tryz.isAgg197
  z127 := Tryz.sizeOf197
  v127 := Tryz.zeroValue197
  t146 := Tryz.underlying192
  a146 := Tryz.isAgg192
  z146 := Tryz.sizeOf192
  v146 := Tryz.zeroValue192
  t148 := Tryz.underlying195
  a148 := Tryz.isAgg195
  z148 := Tryz.sizeOf195
  v148 := Tryz.zeroValue195
  t164 := Tryz.underlying212
  a164 := Tryz.isAgg212
  z164 := Tryz.sizeOf212
  v164 := Tryz.zeroValue212 }

theorem repX : Builder.Extra Tryz.prog repL_ren where
  sizeBuilder := by kernel_rfl
  liesBuilder := by kernel_rfl
  t5 := repL.t5
  a5 := repL.a5
  z5 := repL.z5
  v5 := repL.v5
  infoByte := by kernel_rfl
  cellsByte := by kernel_rfl
  sizeByte := by kernel_rfl
  neB5 := by decide

theorem repeat_any (s : ByteArray) (c : Nat) (w : World) (hc : c ≤ 9223372036854775807) (hlen : s.size * c ≤ 140737488355328) :
    Calls Tryz.prog 80 #[.string s, .int .i64 c] w fun e w' => e = .returned (.string ⟨(Lib.repeatL s.data.toList c).toArray⟩) ∧ Below w.heap.size w w' :=
  Any.strings_Repeat repL repX s c w hc hlen

end Go.Proofs.YthmohjgdcjafkadGreat

/- The contracts of region's small functions: sectors, outside, gap; Size. -/
namespace Go.Proofs.YthmohjgdcjafkadGreat
open Go.RowKit Go.PlainAid

set_option maxRecDepth 100000

set_option maxHeartbeats 1000000 in
theorem sectors_any (N T : ByteArray) (ma mi : Int) (pe pi pp : Option Addr) (le ke li ki lp kp : Nat) (w : World) (hT : T.size ≤ 256) :
    Calls Tryz.prog 64 #[.agg #[.string N, .int .i64 ma, .int .i64 mi, .string T, .slice pe le ke, .slice pi li ki, .slice pp lp kp]] w fun e w' => e = .returned (.int .i64 (((T.size + 63) / 64 : Nat) : Int)) ∧ Below w.heap.size w w' := by
  have e1 : ((T.size : Int) + 64 - 1) / 64 = (((T.size + 63) / 64 : Nat) : Int) := by omega
  go_enter Tryz.func64, Tryz.ntmps64
  go_wp2
  go_ret
  refine ⟨?_, (Below.refl _ _).alloc (Nat.le_refl _) _⟩
  show Ending.returned (.int .i64 (((T.size : Int) + 64 - 1) / 64)) = _
  rw [e1]

set_option maxHeartbeats 1000000 in
theorem size_any (M : Mod) (v : Value) (w : World) (hM : IsMod w.heap.size w v M) (hf : M.fits) :
    Calls Tryz.prog 30 #[v] w fun e w' => e = .returned (.tuple #[.int .i64 (if chkMod M = 0 then (szM M : Int) else 0), .int .i64 (chkMod M)]) ∧ Below w.heap.size w w' := by
  have HC : Hid (∀ W, Below w.heap.size w W → Calls Tryz.prog 66 #[v] W fun e w' => e = .returned (.int .i64 (chkMod M)) ∧ Below W.heap.size W w') := fun W hb => check_any M v W ((hM.below hb).more hb.size) hf
  have HT : chkMod M = 0 → M.text.size ≤ 256 := fun h => (szM_bd h).2.2.1
  have hsz : Hid (szM M = (M.text.size + 63) / 64) := rfl
  have key : (chkMod M = 0 ∧ (if chkMod M = 0 then (szM M : Int) else 0) = (szM M : Int)) ∨ (chkMod M ≠ 0 ∧ (if chkMod M = 0 then (szM M : Int) else 0) = 0) := by
    by_cases h : chkMod M = 0
    · exact .inl ⟨h, if_pos h⟩
    · exact .inr ⟨h, if_neg h⟩
  generalize (if chkMod M = 0 then (szM M : Int) else 0) = R at *
  generalize szM M = sz at *
  generalize chkMod M = cm at *
  obtain ⟨ve, vi, vp, rfl, hE, hI, hP⟩ := hM
  obtain ⟨pe, ke, rfl, _, _⟩ := hE
  obtain ⟨pi, ki, rfl, _, _⟩ := hI
  obtain ⟨pp, kp, rfl, _, _⟩ := hP
  obtain ⟨N, ma, mi, T, es, is, ps⟩ := M
  dsimp only at *
  generalize es.length = le at *
  generalize is.length = li at *
  generalize ps.length = lp at *
  have HB : Hid (Below w.heap.size w (w.alloc (.cells #[.string N, .int .i64 ma, .int .i64 mi, .string T, .slice pe le ke, .slice pi li ki, .slice pp lp kp] 39))) := (Below.refl _ _).alloc (Nat.le_refl _) _
  have HCA : Hid (CellsAt (w.alloc (.cells #[.string N, .int .i64 ma, .int .i64 mi, .string T, .slice pe le ke, .slice pi li ki, .slice pp lp kp] 39)) w.heap.size 39 #[.string N, .int .i64 ma, .int .i64 mi, .string T, .slice pe le ke, .slice pi li ki, .slice pp lp kp]) := CellsAt.new _ _ _
  go_enter Tryz.func30, Tryz.ntmps30
  go_wp2_with fail
  refine (HC.out _ HB.out).mono ?_
  rintro e w2 ⟨rfl, b2⟩
  have B2 := HB.out.trans (b2.mono HB.out.size)
  have C2 := HCA.out.below b2 HCA.out.lt
  clear HB HCA b2 HC
  rcases key with ⟨rfl, rfl⟩ | ⟨h0, rfl⟩
  · have hT : T.size ≤ 256 := by first | exact HT rfl | exact HT trivial | exact HT
    have t0 := C2.cell 0
    have t1 := C2.cell 1
    have t2 := C2.cell 2
    have t3 := C2.cell 3
    have t4 := C2.cell 4
    have t5 := C2.cell 5
    have t6 := C2.cell 6
    simp at t0 t1 t2 t3 t4 t5 t6
    clear C2 HT
    go_wp2_with fail
    refine (sectors_any _ _ _ _ _ _ _ _ _ _ _ _ _ _ hT).mono ?_
    rintro e w3 ⟨rfl, b3⟩
    have B3 := B2.trans (b3.mono B2.size)
    clear b3 t0 t1 t2 t3 t4 t5 t6
    rw [← hsz.out]
    clear hsz
    go_wp2
    go_ret2
    exact ⟨rfl, B3⟩
  · have h0' : (cm != 0) = true := by simpa using h0
    clear C2 HT h0
    go_wp2
    go_ret2
    exact ⟨rfl, B2⟩

set_option maxHeartbeats 1000000 in
theorem outside_any (x : PV) (n₀ : Nat) (w : World) (hat : PlcAt n₀ w x) (h0 : chkMod x.mod = 0) :
    Calls Tryz.prog 108 #[x.val] w fun e w' => e = .returned (.int .i64 (outErr x.plc)) ∧ Below w.heap.size w w' := by
  have hT : x.mod.text.size ≤ 256 := (szM_bd h0).2.2.1
  have key : (x.first < 0 ∧ outErr x.plc = 3) ∨ (0 ≤ x.first ∧ 16 - (szM x.mod : Int) < x.first ∧ outErr x.plc = 3) ∨ (0 ≤ x.first ∧ x.first ≤ 16 - (szM x.mod : Int) ∧ outErr x.plc = 0) := by
    unfold outErr PV.plc
    dsimp only
    by_cases g1 : x.first < 0
    · exact .inl ⟨g1, if_pos (.inl g1)⟩
    by_cases g2 : 16 - (szM x.mod : Int) < x.first
    · exact .inr (.inl ⟨by omega, g2, if_pos (.inr g2)⟩)
    · exact .inr (.inr ⟨by omega, by omega, if_neg (by omega)⟩)
  have hsz : szM x.mod = (x.mod.text.size + 63) / 64 := rfl
  have hs4 := (szM_bd h0).2.1
  generalize szM x.mod = sz at *
  generalize outErr x.plc = oe at *
  unfold PV.val
  obtain ⟨⟨pe, ke, e4, _⟩, ⟨pi, ki, e5, _⟩, ⟨pp, kp, e6, _⟩⟩ := hat
  obtain ⟨⟨N, ma, mi, T, es, is, ps⟩, ve, vi, vp, fi⟩ := x
  dsimp only at *
  subst e4 e5 e6
  generalize es.length = le at *
  generalize is.length = li at *
  generalize ps.length = lp at *
  clear h0
  have HS : Hid (∀ W, Calls Tryz.prog 64 #[.agg #[.string N, .int .i64 ma, .int .i64 mi, .string T, .slice pe le ke, .slice pi li ki, .slice pp lp kp]] W fun e w' => e = .returned (.int .i64 (sz : Int)) ∧ Below W.heap.size W w') := fun W => by
    rw [hsz]
    exact sectors_any _ _ _ _ _ _ _ _ _ _ _ _ _ _ hT
  clear hsz
  have C2 : CellsAt (w.alloc (.cells #[.string N, .int .i64 ma, .int .i64 mi, .string T, .slice pe le ke, .slice pi li ki, .slice pp lp kp, .int .i64 fi] 41)) w.heap.size 41 #[.string N, .int .i64 ma, .int .i64 mi, .string T, .slice pe le ke, .slice pi li ki, .slice pp lp kp, .int .i64 fi] := CellsAt.new _ _ _
  have B2 : Below w.heap.size w (w.alloc (.cells #[.string N, .int .i64 ma, .int .i64 mi, .string T, .slice pe le ke, .slice pi li ki, .slice pp lp kp, .int .i64 fi] 41)) := (Below.refl _ _).alloc (Nat.le_refl _) _
  have t0 := cell_regrown (C2.cell 0)
  have t1 := cell_regrown (C2.cell 1)
  have t2 := cell_regrown (C2.cell 2)
  have t3 := cell_regrown (C2.cell 3)
  have t4 := cell_regrown (C2.cell 4)
  have t5 := cell_regrown (C2.cell 5)
  have t6 := cell_regrown (C2.cell 6)
  have t7 := cell_regrown (C2.cell 7)
  clear C2
  rcases key with ⟨h1, rfl⟩ | ⟨h1, h2, rfl⟩ | ⟨h1, h2, rfl⟩
  · go_enter Tryz.func108, Tryz.ntmps108
    go_wp2_with fail
    generalize w.alloc (.cells #[.string N, .int .i64 ma, .int .i64 mi, .string T, .slice pe le ke, .slice pi li ki, .slice pp lp kp, .int .i64 fi] 41) = W1 at t0 t1 t2 t3 t4 t5 t6 t7 B2 ⊢
    refine wp_region_quiet_below (by kernel_rfl) (by kernel_rfl) ?_
    repeat (quiet_step ((go_at_call 64; go_must (exact Calls.regrown_of (HS.out _)))))
    refine wpQuiet_nil ?_
    intro _ hw'
    obtain ⟨⟨dq, osq⟩, hw''⟩ := hw'
    have B5 := B2.trans ((below_regrown W1 dq osq).mono B2.size)
    rw [← hw''] at B5
    clear hw''
    go_wp2
    go_ret
    exact ⟨rfl, B5⟩
  · have h1' : decide (fi < 0) = false := decide_eq_false (by omega)
    go_enter Tryz.func108, Tryz.ntmps108
    go_wp2_with fail
    generalize w.alloc (.cells #[.string N, .int .i64 ma, .int .i64 mi, .string T, .slice pe le ke, .slice pi li ki, .slice pp lp kp, .int .i64 fi] 41) = W1 at t0 t1 t2 t3 t4 t5 t6 t7 B2 ⊢
    have i1 : IntKind.i64.wrap (16 - (sz : Int)) = 16 - (sz : Int) := by rw [i64_is]; unfold wrap64; omega
    refine wp_region_quiet_below (by kernel_rfl) (by kernel_rfl) ?_
    repeat (quiet_step ((go_at_call 64; go_must (exact Calls.regrown_of (HS.out _)))))
    refine wpQuiet_nil ?_
    intro _ hw'
    obtain ⟨⟨dq, osq⟩, hw''⟩ := hw'
    have B5 := B2.trans ((below_regrown W1 dq osq).mono B2.size)
    rw [← hw''] at B5
    clear hw''
    go_wp2
    go_ret
    exact ⟨rfl, B5⟩
  · have h1' : decide (fi < 0) = false := decide_eq_false (by omega)
    have h2' : decide (16 - (sz : Int) < fi) = false := decide_eq_false (by omega)
    go_enter Tryz.func108, Tryz.ntmps108
    go_wp2_with fail
    generalize w.alloc (.cells #[.string N, .int .i64 ma, .int .i64 mi, .string T, .slice pe le ke, .slice pi li ki, .slice pp lp kp, .int .i64 fi] 41) = W1 at t0 t1 t2 t3 t4 t5 t6 t7 B2 ⊢
    have i1 : IntKind.i64.wrap (16 - (sz : Int)) = 16 - (sz : Int) := by rw [i64_is]; unfold wrap64; omega
    refine wp_region_quiet_below (by kernel_rfl) (by kernel_rfl) ?_
    repeat (quiet_step ((go_at_call 64; go_must (exact Calls.regrown_of (HS.out _)))))
    refine wpQuiet_nil ?_
    intro _ hw'
    obtain ⟨⟨dq, osq⟩, hw''⟩ := hw'
    have B5 := B2.trans ((below_regrown W1 dq osq).mono B2.size)
    rw [← hw''] at B5
    clear hw''
    go_wp2
    go_ret
    exact ⟨rfl, B5⟩

def runC (r : Int × Int) : List Value := [.int .i64 r.1, .int .i64 r.2]
def runCell (r : Int × Int) : Nat → Value
  | 0 => .int .i64 r.1
  | _ => .int .i64 r.2
theorem runC_at (x : Int × Int) (i : Nat) (hi : i < 2) : (runC x)[i]? = some (runCell x i) := by
  have : i = 0 ∨ i = 1 := by omega
  rcases this with rfl | rfl <;> rfl
theorem infoRun : (Tryz.prog.info? 92).map (fun i => (i.zero, i.size, i.bytes)) = some (some (.agg #[.int .i64 0, .int .i64 0]), 2, 16) := by kernel_rfl
theorem infoRun_parts : ∃ i, Tryz.prog.info? 92 = some i ∧ i.zero = some (.agg #[.int .i64 0, .int .i64 0]) ∧ i.size = 2 ∧ i.bytes = 16 := by
  have h := infoRun
  cases hi : Tryz.prog.info? 92 with
  | none => rw [hi] at h; cases h
  | some i =>
    rw [hi] at h
    simp at h
    exact ⟨i, rfl, h.1, h.2.1, h.2.2⟩

set_option maxHeartbeats 1000000 in
theorem gap_any (l : List (Int × Int)) (a b : Int) (v : Value) (base : Nat) (w : World) (hown : w.ownsRow base 92 2 v l.length (l.flatMap runC)) (hb : base ≤ w.heap.size) (hl : l.length ≤ 16) (ha : 0 ≤ a ∧ a ≤ 16) (hb2 : 0 ≤ b ∧ b ≤ 16) :
    Calls Tryz.prog 63 #[v, .int .i64 a, .int .i64 b] w fun e w' => (∃ r, e = .returned r ∧ w'.ownsRow base 92 2 r (l ++ gapOf a b).length ((l ++ gapOf a b).flatMap runC)) ∧ w.grownBy w' v.ownBlock := by
  have HO := hown
  obtain ⟨av, kv, rfl⟩ := own_form hown
  by_cases h : a = b
  · subst h
    have e1 : l ++ gapOf a a = l := by simp [gapOf]
    rw [e1]
    go_enter Tryz.func63, Tryz.ntmps63
    go_wp2
    go_ret
    exact ⟨⟨_, rfl, HO⟩, World.grownBy.refl _ _⟩
  · have e1 : l ++ gapOf a b = l ++ [(a, b - a)] := by simp [gapOf, h]
    rw [e1]
    have h' : (a == b) = false := beq_eq_false_iff_ne.2 h
    obtain ⟨ii, hii, hz0, hz1, hz2⟩ := infoRun_parts
    generalize hk : l.length = k at *
    go_enter Tryz.func63, Tryz.ntmps63
    go_wp2_with (at_builtin; refine wpList_append_lies _ rfl _ _ _ rfl base 92 ii _ 2 16 Tryz.underlying57 hii hz0 hz1 hz2 rfl (by omega) (.slice av k kv) k (l.flatMap runC) rfl (HO.alloc _) ⟨w.heap.size, 0, none⟩ 1 1 [.int .i64 a, .int .i64 (b - a)] rfl rfl (World.news_of_block (cs := #[.int .i64 a, .int .i64 (b - a)]) (t := 92) (fr := (0, 0)) (CellsAt.new w 92 #[.int .i64 a, .int .i64 (b - a)])) (by simp [Value.oneCell']) (by omega) (by unfold maxLen; omega) (by omega) (by simp; omega) (w.heap.size + 1) (by simp) ?_; intro g gc w8 hown8 hgrow hat hltg)
    go_ret
    refine ⟨⟨_, rfl, ?_⟩, (World.grownBy_alloc w _ _).trans hgrow⟩
    rw [List.length_append, List.flatMap_append, hk]
    exact hown8

end Go.Proofs.YthmohjgdcjafkadGreat

/- The contracts of region.wrong and region.Free. -/
namespace Go.Proofs.YthmohjgdcjafkadGreat
open Go.RowKit Go.PlainAid

set_option maxRecDepth 100000

def bErr (b : Bool) : Int := if b = false then 4 else 0
theorem chkReg_cases (L : List Plc) : ((if 8 < L.length then 2 else chkBy outErr L) ≠ 0 ∧ chkReg L = (if 8 < L.length then 2 else chkBy outErr L)) ∨ ((if 8 < L.length then 2 else chkBy outErr L) = 0 ∧ (∀ p ∈ L, chkMod p.mod = 0 ∧ 0 ≤ p.first ∧ p.first + szM p.mod ≤ 16) ∧ chkReg L = bErr (behind 0 L)) := by
  unfold chkReg
  by_cases h8 : 8 < L.length
  · left
    simp [h8]
  · rw [if_neg h8, if_neg h8]
    by_cases h : chkBy outErr L = 0
    · right
      refine ⟨h, fun p hp => ?_, by rw [if_neg (by omega)]; rfl⟩
      obtain ⟨h1, h2⟩ := chkBy_zero.1 h p hp
      unfold outErr at h2
      split at h2
      · omega
      · exact ⟨h1, by omega, by omega⟩
    · left
      exact ⟨h, by rw [if_pos h]⟩

set_option maxHeartbeats 4000000 in
theorem regWrong_any (l : List PV) (v : Value) (w : World) (hrow : IsPlcs w.heap.size w v l) (hfit : ∀ x ∈ l, x.mod.fits) :
    Calls Tryz.prog 62 #[v] w fun e w' => e = .returned (.int .i64 (chkReg (l.map PV.plc))) ∧ Below w.heap.size w w' := by
  have HP : Hid (∀ (W : World) (t : TypeId), Below w.heap.size w W → Calls Tryz.prog 99 #[v, .slice (some ⟨W.heap.size, 0, none⟩) 1 1] (W.alloc (.cells #[.func (.func 108) #[] #[]] t)) fun e w' => e = .returned (.int .i64 (if 8 < l.length then 2 else chkBy outErr (l.map PV.plc))) ∧ Below (W.heap.size + 1) (W.alloc (.cells #[.func (.func 108) #[] #[]] t)) w') := by
    intro W t hb
    have hb1 : Below w.heap.size w (W.alloc (.cells #[.func (.func 108) #[] #[]] t)) := hb.alloc hb.size _
    have := placedWrong_one l v W.heap.size 108 outErr (W.alloc (.cells #[.func (.func 108) #[] #[]] t)) ((hrow.below hb1).more hb1.size) hfit (by simp) (by simp) (fun w x => enters_of Tryz.func108 (by kernel_rfl) rfl _ w) (fun x hx h0 W' hb' => outside_any x _ W' (((hrow.2 x hx).below hb1).more hb1.size |>.below hb') h0)
    refine this.mono ?_
    rintro e w' ⟨rfl, b⟩
    exact ⟨rfl, by simpa using b⟩
  have hat := hrow.2
  obtain ⟨⟨a, cap, rfl, hmax, hrow⟩, _⟩ := hrow
  have key := chkReg_cases (l.map PV.plc)
  rw [List.length_map] at key
  have hall : (∀ p ∈ l.map PV.plc, chkMod p.mod = 0 ∧ 0 ≤ p.first ∧ p.first + szM p.mod ≤ 16) → ∀ x ∈ l, x.mod.text.size ≤ 256 ∧ 0 ≤ x.first ∧ x.first + szM x.mod ≤ 16 := by
    intro h x hx
    obtain ⟨h1, h2, h3⟩ := h x.plc (List.mem_map_of_mem hx)
    exact ⟨(szM_bd h1).2.2.1, h2, h3⟩
  generalize chkReg (l.map PV.plc) = R at *
  generalize (if 8 < l.length then (2 : Int) else chkBy outErr (l.map PV.plc)) = cp at *
  go_enter Tryz.func62, Tryz.ntmps62
  go_wp2_with fail
  refine (HP.out w _ (Below.refl _ _)).mono ?_
  rintro e w2 ⟨rfl, b2⟩
  have B2 := ((Below.refl w.heap.size w).alloc (Nat.le_refl _) _).trans (b2.mono (by omega))
  clear HP b2
  rcases key with ⟨h0, rfl⟩ | ⟨rfl, h0, rfl⟩
  · have h0' : (R != 0) = true := by simpa using h0
    clear hall hrow hat
    go_wp2
    go_ret
    exact ⟨rfl, B2⟩
  · have hx0 := hall h0
    clear hall h0
    go_wp2_with fail
    go_loopw [4, 15] (fun d i wr => ∃ (k : Nat) (e : Int), k ≤ l.length ∧ i = .int .i64 k ∧ d = .int .i64 e ∧ Hid (behind 0 (l.map PV.plc) = behind e ((l.drop k).map PV.plc)) ∧ Below w.heap.size w wr) (fun _ i _ => l.length - (intOf i).toNat)
    case atStart => exact ⟨0, 0, Nat.zero_le _, rfl, rfl, by show behind 0 (l.map PV.plc) = behind 0 ((l.drop 0).map PV.plc); rfl, B2⟩
    case round =>
      obtain ⟨k, en, hk, rfl, rfl, HC, B⟩ := hrel
      by_cases hlt : k < l.length
      · obtain ⟨x, hx⟩ : ∃ x, l[k]? = some x := ⟨_, List.getElem?_eq_getElem hlt⟩
        rcases hrow with h | ⟨b, off, rfl, hbn, hcells⟩
        · subst h; simp at hlt
        have HR : Hid (behind 0 (l.map PV.plc) = (!decide (x.first < en) && behind (x.first + szM x.mod) ((l.drop (k + 1)).map PV.plc))) := by
          show behind 0 (l.map PV.plc) = _
          rw [HC.out, drop_at hx]; rfl
        have hxx := hx0 x (List.mem_of_getElem? hx)
        have HS : Hid (∀ W, Calls Tryz.prog 64 #[x.modV] W fun e w' => e = .returned (.int .i64 (szM x.mod : Int)) ∧ Below W.heap.size W w') := by
          intro W
          obtain ⟨⟨pe, ke, e4, _⟩, ⟨pi, ki, e5, _⟩, ⟨pp, kp, e6, _⟩⟩ := hat x (List.mem_of_getElem? hx)
          unfold PV.modV
          rw [e4, e5, e6]
          exact sectors_any _ _ _ _ _ _ _ _ _ _ _ _ _ _ hxx.1
        obtain ⟨⟨pe, ke, e4, _⟩, ⟨pi, ki, e5, _⟩, ⟨pp, kp, e6, _⟩⟩ := hat x (List.mem_of_getElem? hx)
        generalize hsz : szM x.mod = sz at *
        obtain ⟨⟨N, ma, mi, T, es, is, ps⟩, ve, vi, vp, fi⟩ := x
        dsimp only at e4 e5 e6
        subst e4 e5 e6
        have c0 := (B.cell (p := ⟨b, off + k * 8 + 0, none⟩) hbn).trans (hcells k _ hx 0 (by omega))
        have c1 := (B.cell (p := ⟨b, off + k * 8 + 1, none⟩) hbn).trans (hcells k _ hx 1 (by omega))
        have c2 := (B.cell (p := ⟨b, off + k * 8 + 2, none⟩) hbn).trans (hcells k _ hx 2 (by omega))
        have c3 := (B.cell (p := ⟨b, off + k * 8 + 3, none⟩) hbn).trans (hcells k _ hx 3 (by omega))
        have c4 := (B.cell (p := ⟨b, off + k * 8 + 4, none⟩) hbn).trans (hcells k _ hx 4 (by omega))
        have c5 := (B.cell (p := ⟨b, off + k * 8 + 5, none⟩) hbn).trans (hcells k _ hx 5 (by omega))
        have c6 := (B.cell (p := ⟨b, off + k * 8 + 6, none⟩) hbn).trans (hcells k _ hx 6 (by omega))
        have c7 := (B.cell (p := ⟨b, off + k * 8 + 7, none⟩) hbn).trans (hcells k _ hx 7 (by omega))
        dsimp only [PV.cell] at c0 c1 c2 c3 c4 c5 c6 c7
        dsimp only [PV.modV] at HS
        dsimp only at hxx HR
        rw [Nat.add_zero] at c0
        clear HC hcells hx hat hsz hx0
        obtain ⟨_, hf0, hf1⟩ := hxx
        generalize es.length = le at *
        generalize is.length = li at *
        generalize ps.length = lp at *
        have C2 : CellsAt (wr.alloc (.cells #[.string N, .int .i64 ma, .int .i64 mi, .string T, .slice pe le ke, .slice pi li ki, .slice pp lp kp, .int .i64 fi] 41)) wr.heap.size 41 #[.string N, .int .i64 ma, .int .i64 mi, .string T, .slice pe le ke, .slice pi li ki, .slice pp lp kp, .int .i64 fi] := CellsAt.new _ _ _
        have BB : Below w.heap.size w (wr.alloc (.cells #[.string N, .int .i64 ma, .int .i64 mi, .string T, .slice pe le ke, .slice pi li ki, .slice pp lp kp, .int .i64 fi] 41)) := B.alloc B.size _
        by_cases hb : fi < en
        · have HZ : Hid (behind 0 (l.map PV.plc) = false) := by
            show behind 0 (l.map PV.plc) = false
            rw [HR.out, decide_eq_true hb]; rfl
          clear HR HS C2
          go_wp2
          go_ret
          exact ⟨by rw [HZ.out]; rfl, BB⟩
        · have hb' : decide (fi < en) = false := decide_eq_false hb
          have HZ : Hid (behind 0 (l.map PV.plc) = behind (fi + sz) ((l.drop (k + 1)).map PV.plc)) := by
            show behind 0 (l.map PV.plc) = _
            rw [HR.out, hb']; rfl
          clear HR
          have t0 := cell_regrown (C2.cell 0)
          have t1 := cell_regrown (C2.cell 1)
          have t2 := cell_regrown (C2.cell 2)
          have t3 := cell_regrown (C2.cell 3)
          have t4 := cell_regrown (C2.cell 4)
          have t5 := cell_regrown (C2.cell 5)
          have t6 := cell_regrown (C2.cell 6)
          have t7 := cell_regrown (C2.cell 7)
          clear C2
          go_wp2_with fail
          generalize wr.alloc (.cells #[.string N, .int .i64 ma, .int .i64 mi, .string T, .slice pe le ke, .slice pi li ki, .slice pp lp kp, .int .i64 fi] 41) = W1 at t0 t1 t2 t3 t4 t5 t6 t7 BB ⊢
          have i1 : IntKind.i64.wrap (fi + (sz : Int)) = fi + (sz : Int) := by rw [i64_is]; unfold wrap64; omega
          refine wp_region_quiet_below (by kernel_rfl) (by kernel_rfl) ?_
          repeat (quiet_step ((go_at_call 64; go_must (exact Calls.regrown_of (HS.out _)))))
          refine wpQuiet_nil ?_
          intro _ hw'
          obtain ⟨⟨dq, osq⟩, hw''⟩ := hw'
          have B5 := BB.trans ((below_regrown W1 dq osq).mono BB.size)
          rw [← hw''] at B5
          clear hw'' t0 t1 t2 t3 t4 t5 t6 t7 HS
          go_wp2
          exact ⟨⟨k + 1, fi + sz, by omega, by go_num, by first | rfl | (rw [i1]), HZ.out, B5⟩, by simp [intOf]; omega⟩
      · obtain rfl : k = l.length := by omega
        have HZ : Hid (behind 0 (l.map PV.plc) = true) := by
          show behind 0 (l.map PV.plc) = true
          rw [HC.out, List.drop_length]; rfl
        go_wp2
        go_ret
        exact ⟨by rw [HZ.out]; rfl, B⟩

end Go.Proofs.YthmohjgdcjafkadGreat

/- The contract of slices.IndexFunc at runs. -/
namespace Go.Proofs.YthmohjgdcjafkadGreat
open Go.RowKit Go.PlainAid

set_option maxRecDepth 100000

set_option maxHeartbeats 1000000 in
theorem idxRun_any (l : List (Int × Int)) (v : Value) (K : FuncId) (c : Value) (hK : ∀ w x, Sem.run Tryz.prog (callFunc K #[x, c]) w = .ok (.enter K #[x, c]) w) (p : Int × Int → Bool) (w : World) (hrow : RowOf 2 runCell w.heap.size w v l)
    (hp : ∀ x ∈ l, ∀ W, Below w.heap.size w W → Calls Tryz.prog K #[.agg #[.int .i64 x.1, .int .i64 x.2], c] W fun e W' => e = .returned (.bool (p x)) ∧ Below W.heap.size W W') :
    Calls Tryz.prog 74 #[v, .func (.func K) #[] #[c]] w fun e w' => e = .returned (.int .i64 (ixFrom p 0 l)) ∧ Below w.heap.size w w' := by
  obtain ⟨a, cap, rfl, _, hrow⟩ := hrow
  go_enter Tryz.func74, Tryz.ntmps74
  go_wp2
  go_loopw [8] (fun i wr => ∃ (k : Nat), k ≤ l.length ∧ i = .int .i64 k ∧ Hid (ixFrom p 0 l = ixFrom p k (l.drop k)) ∧ Below w.heap.size w wr) (fun i _ => l.length - (intOf i).toNat)
  case atStart => exact ⟨0, Nat.zero_le _, rfl, by show ixFrom p 0 l = ixFrom p 0 (l.drop 0); rfl, Below.refl _ _⟩
  case round =>
    obtain ⟨k, hk, rfl, HC, B⟩ := hrel
    by_cases hlt : k < l.length
    · obtain ⟨x, hx⟩ : ∃ x, l[k]? = some x := ⟨_, List.getElem?_eq_getElem hlt⟩
      rcases hrow with h | ⟨b, off, rfl, hbn, hcells⟩
      · subst h; simp at hlt
      have HP := hp x (List.mem_of_getElem? hx)
      obtain ⟨nm, ps⟩ := x
      have c0 := (B.cell (p := ⟨b, off + k * 2 + 0, none⟩) hbn).trans (hcells k _ hx 0 (by omega))
      have c1 := (B.cell (p := ⟨b, off + k * 2 + 1, none⟩) hbn).trans (hcells k _ hx 1 (by omega))
      dsimp only [runCell] at c0 c1
      rw [Nat.add_zero] at c0
      have HR : Hid (ixFrom p 0 l = if p ⟨nm, ps⟩ then (k : Int) else ixFrom p (k + 1) (l.drop (k + 1))) := by
        show ixFrom p 0 l = _
        rw [HC.out, drop_at hx]; rfl
      have HP' : Hid (∀ W, Below w.heap.size w W → Calls Tryz.prog K #[.agg #[.int .i64 nm, .int .i64 ps], c] W fun e W' => e = .returned (.bool (p ⟨nm, ps⟩)) ∧ Below W.heap.size W W') := HP
      clear HC hcells hx HP
      generalize p ⟨nm, ps⟩ = t at HR HP'
      go_wp2_with fail
      refine Calls.mono (HP'.out _ B) ?_
      rintro e w2 ⟨rfl, b2⟩
      have B2 := B.trans (b2.mono B.size)
      clear b2 HP' c0 c1
      cases t
      · go_wp2
        exact ⟨⟨k + 1, by omega, by go_num, HR.out, B2⟩, by simp [intOf]; omega⟩
      · go_wp2
        go_ret
        exact ⟨by rw [HR.out]; rfl, B2⟩
    · obtain rfl : k = l.length := by omega
      have HZ : Hid (ixFrom p 0 l = -1) := by
        show ixFrom p 0 l = -1
        rw [HC.out, List.drop_length]; rfl
      go_wp2
      go_ret
      exact ⟨by rw [HZ.out]; rfl, B⟩

end Go.Proofs.YthmohjgdcjafkadGreat
