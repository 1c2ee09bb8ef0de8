/- Texts that are laid together. -/
import Derived.Test.YthmohjgdcjafkadGreatMrgN
import Derived.Test.YthmohjgdcjafkadGreatMrgR
import Derived.Test.YthmohjgdcjafkadGreatMrgP
import Derived.Laws.ResultCell
import Derived.Test.YthmohjgdcjafkadGreatMrgQ

/- What the first free run and the first module behind it say of a step, as data. -/
namespace Go.Proofs.YthmohjgdcjafkadGreat
open Go.RowKit Go.PlainAid

theorem step_run : ∀ {L : List Plc} {e : Int}, okPl e L →
    (stepFrom e L = none ∧ (runsFrom e L = [] ∨ ∃ r rs, runsFrom e L = r :: rs ∧ e ≤ r.1 ∧ ∀ p ∈ L, p.first ≤ r.1)) ∨
    (∃ r rs j p, runsFrom e L = r :: rs ∧ e ≤ r.1 ∧ L[j]? = some p ∧ r.1 < p.first ∧ (∀ i q, i < j → L[i]? = some q → q.first ≤ r.1) ∧ stepFrom e L = some (L.set j ⟨p.mod, r.1⟩))
  | [], e, _ => by
    refine .inl ⟨rfl, ?_⟩
    have hr : runsFrom e [] = gapOf e 16 := rfl
    rw [hr]
    unfold gapOf
    split
    · first | exact .inl rfl | exact .inr ⟨_, _, rfl, Int.le_refl _, fun p hp => by simp at hp⟩
    · first | exact .inl rfl | exact .inr ⟨_, _, rfl, Int.le_refl _, fun p hp => by simp at hp⟩
  | p :: l, e, ⟨h1, h2, h3, h4⟩ => by
    have hst : stepFrom e (p :: l) = if p.first = e then (stepFrom (e + szM p.mod) l).map (p :: ·) else some (⟨p.mod, e⟩ :: l) := rfl
    by_cases hp : p.first = e
    · have hr : runsFrom e (p :: l) = runsFrom (e + szM p.mod) l := by
        have h0 : runsFrom e (p :: l) = gapOf e p.first ++ runsFrom (p.first + szM p.mod) l := rfl
        have hg : gapOf e e = [] := by
          unfold gapOf
          first | rw [if_neg (by omega)] | rw [if_pos rfl]
        rw [h0, hp, hg]
        rfl
      rw [hst, if_pos hp, hr]
      rw [hp] at h4
      rcases step_run h4 with ⟨n1, n2⟩ | ⟨r, rs, j, q, e1, e2, e3, e4, e5, e6⟩
      · refine .inl ⟨by rw [n1]; rfl, ?_⟩
        rcases n2 with n2 | ⟨r, rs, e1, e2, e3⟩
        · exact .inl n2
        · refine .inr ⟨r, rs, e1, by omega, fun x hx => ?_⟩
          rcases List.mem_cons.1 hx with rfl | hx
          · omega
          · exact e3 x hx
      · refine .inr ⟨r, rs, j + 1, q, e1, by omega, e3, e4, fun i x hi hx => ?_, by rw [e6]; rfl⟩
        cases i with
        | zero =>
          have : p = x := by simpa using hx
          rw [← this]
          omega
        | succ i => exact e5 i x (by omega) (by simpa using hx)
    · have hlt : e < p.first := by omega
      refine .inr ⟨(e, p.first - e), runsFrom (p.first + szM p.mod) l, 0, p, ?_, Int.le_refl _, rfl, hlt, fun i x hi _ => by omega, ?_⟩
      · have h0 : runsFrom e (p :: l) = gapOf e p.first ++ runsFrom (p.first + szM p.mod) l := rfl
        have hg : gapOf e p.first = [(e, p.first - e)] := by
          unfold gapOf
          first | rw [if_pos hlt] | rw [if_neg (by omega)]
        rw [h0, hg]
        rfl
      · rw [hst, if_neg hp]
        rfl

end Go.Proofs.YthmohjgdcjafkadGreat

/- The contract of package compact's step. -/
namespace Go.Proofs.YthmohjgdcjafkadGreat
open Go.RowKit Go.PlainAid Go.Lib

set_option maxRecDepth 100000

theorem ix_at {α : Type} (p : α → Bool) : ∀ (l : List α) (k j : Nat) (x : α), l[j]? = some x → p x = true → (∀ i y, i < j → l[i]? = some y → p y = false) → ixFrom p k l = ((k + j : Nat) : Int)
  | [], _, _, _, h, _, _ => by simp at h
  | y :: l, k, 0, x, h, hx, _ => by
    obtain rfl : y = x := by simpa using h
    unfold ixFrom
    rw [if_pos hx]
    rfl
  | y :: l, k, j + 1, x, h, hx, hi => by
    unfold ixFrom
    rw [if_neg (by rw [hi 0 y (by omega) rfl]; decide), ix_at p l (k + 1) j x (by simpa using h) hx (fun i z h1 h2 => hi (i + 1) z (by omega) (by simpa using h2))]
    congr 1; omega
theorem ix_none {α : Type} (p : α → Bool) (l : List α) (k : Nat) (h : ∀ y ∈ l, p y = false) : ixFrom p k l = -1 := by
  rcases ix_find p l k with ⟨_, h2⟩ | ⟨j, x, _, h2, _⟩
  · exact h2
  · rcases ix_find p l k with ⟨_, h3⟩ | ⟨j', x', h3, _, _⟩
    · exact h3
    · have := List.find?_some h3
      rw [h x' (List.mem_of_find?_eq_some h3)] at this
      cases this

/-- A placed module moved. -/
def PV.at (x : PV) (f : Int) : PV := ⟨x.mod, x.ve, x.vi, x.vp, f⟩
theorem own_first {W : World} {base g n cap : Nat} {l : List PV} {j : Nat} {x : PV} (h : W.ownsRow base 41 8 (.slice (some ⟨g, 0, none⟩) n cap) n (l.flatMap pvC)) (hx : l[j]? = some x) (f : Int) :
    (W.setCell ⟨g, j * 8 + 7, none⟩ (.int .i64 f)).ownsRow base 41 8 (.slice (some ⟨g, 0, none⟩) n cap) n ((l.set j (x.at f)).flatMap pvC) ∧ W.grownBy (W.setCell ⟨g, j * 8 + 7, none⟩ (.int .i64 f)) (some g) := by
  obtain ⟨o, gr⟩ := h.stored (j * 8 + 7) (.int .i64 f)
  rw [flat_put (C := pvC) (sz := 8) (fun _ => rfl) l j x (x.at f) 7 (.int .i64 f) hx (by omega) rfl] at o
  exact ⟨o, gr⟩
theorem plc_rows {base : Nat} {W : World} {l : List PV} (hP : ∀ x ∈ l, OwnsPlc base W x) (h : ∀ x ∈ l, x.mod.exps.length ≤ 255 ∧ x.mod.imps.length ≤ 255 ∧ x.mod.pats.length ≤ 255) : ∀ x ∈ l, PlcAt W.heap.size W x := fun x hx => (hP x hx).plcAt (h x hx).1 (h x hx).2.1 (h x hx).2.2
theorem reg_lens {l : List PV} (h0 : chkReg (l.map PV.plc) = 0) : l.length ≤ 8 ∧ ∀ x ∈ l, x.mod.exps.length ≤ 255 ∧ x.mod.imps.length ≤ 255 ∧ x.mod.pats.length ≤ 255 := by
  obtain ⟨h1, h2, _⟩ := chkReg_zero.1 h0
  rw [List.length_map] at h1
  refine ⟨h1, fun x hx => ?_⟩
  have := chkMod_exps (h2 x.plc (List.mem_map_of_mem hx))
  have e : x.plc.mod = x.mod := rfl
  rw [e] at this
  omega

/-- What a growth of the row of modules leaves. -/
def Moved (w : World) (vl : Value) (w' : World) : Prop := ∃ w1, Below w.heap.size w w1 ∧ w1.grownBy w' vl.ownBlock

end Go.Proofs.YthmohjgdcjafkadGreat

/- The contracts of package compact's packed, and of what it is handed. -/
namespace Go.Proofs.YthmohjgdcjafkadGreat
open Go.RowKit Go.PlainAid Go.Lib

set_option maxRecDepth 100000

theorem results_ctt_row {P : Program} {fn : Func} {p u x : Tmp} {ty : TypeId} (h : fn.results = #[.cell p ty, .tmp u, .tmp x]) (tmps : Array Value) (w : World) (g : Nat) (t : TypeId) (cs : Array Value) (fr : Nat × Nat) (d : TypeDesc)
    (hp : tmps.getD p undef = .pointer (some ⟨g, 0, none⟩)) (hg : w.heap[g]? = some (.cells cs t fr))
    (hu : P.underlying ty = some d) (hd : (match d with | .struct _ | .array _ _ => true | _ => false) = true) (hi : (P.info? ty).map (·.size) = some cs.size) :
    (results fn tmps).run P w = .ok (.tuple #[.agg cs, tmps.getD u undef, tmps.getD x undef]) w := by
  have hp' : tmps[p]?.getD undef = .pointer (some ⟨g, 0, none⟩) := by simpa using hp
  simp [results, h, hp', asAddr, run_loadVar_row w g t ty cs fr d hg hu hd hi]

theorem fits_mods {l l' : List PV} (h : l'.map (·.mod) = l.map (·.mod)) (hf : ∀ x ∈ l, x.mod.fits) : ∀ x ∈ l', x.mod.fits := fun x hx => by
  have : x.mod ∈ l'.map (·.mod) := List.mem_map_of_mem hx
  rw [h] at this
  obtain ⟨y, hy, e⟩ := List.mem_map.1 this
  rw [← e]
  exact hf y hy
theorem mods_plc {l l' : List PV} (h : l'.map PV.plc = l.map PV.plc) : l'.map (·.mod) = l.map (·.mod) := by
  have := congrArg (List.map fun p : Plc => p.mod) h
  rw [List.map_map, List.map_map] at this
  exact this
theorem rg_lens {K : Ker} {l : List PV} (h : chkRg K (l.map PV.plc) = 0) : K.exps.length ≤ 255 ∧ l.length ≤ 255 ∧ (∀ x ∈ l, x.mod.exps.length ≤ 255 ∧ x.mod.imps.length ≤ 255 ∧ x.mod.pats.length ≤ 255) ∧ chkReg (l.map PV.plc) = 0 := by
  obtain ⟨h1, h2, _⟩ := chkLink_zero (chkRg_zero h).1
  have h3 := (chkKer_zero h1).1
  obtain ⟨h4, h5⟩ := reg_lens h2
  exact ⟨by omega, by omega, h5, h2⟩

/-- A registry of one's own, in a row of four cells. -/
def PackAt (base Bp : Nat) (W : World) (t : TypeId) (K : Ker) (ve vl : Value) (l : List PV) : Prop :=
  CellsAt W Bp t #[.int .i64 K.major, .int .i64 K.minor, ve, vl] ∧ W.ownsRow base 120 2 ve K.exps.length (K.exps.flatMap expC) ∧ W.ownsRow base 41 8 vl l.length (l.flatMap pvC) ∧ ∀ x ∈ l, OwnsPlc base W x

end Go.Proofs.YthmohjgdcjafkadGreat

/- The contracts of what package compact hands to packed. -/
namespace Go.Proofs.YthmohjgdcjafkadGreat
open Go.RowKit Go.PlainAid Go.Lib

set_option maxRecDepth 100000

/-- A step: what comes, and whether there is one. -/
def stepRes (L : List Plc) : List Plc × Bool := match stepFrom 0 L with | none => (L, false) | some L' => (L', true)

theorem PackAt.below {base Bp : Nat} {W W' : World} {t : TypeId} {K : Ker} {ve vl : Value} {l : List PV} (h : PackAt base Bp W t K ve vl l) (hb : Below W.heap.size W W') : PackAt base Bp W' t K ve vl l :=
  ⟨h.1.below hb h.1.lt, own_below h.2.1 hb, own_below h.2.2.1 hb, fun x hx => (h.2.2.2 x hx).below hb⟩
theorem PackAt.beCell {base Bp B : Nat} {W W' : World} {t s : TypeId} {K : Ker} {ve vl : Value} {l : List PV} {cs : Array Value} (h : PackAt base Bp W t K ve vl l) (hc : CellsAt W B s cs) (hne : Bp ≠ B) (h1 : 120 ≠ s) (h2 : 84 ≠ s) (h3 : 43 ≠ s) (h4 : 41 ≠ s) (hg : W.grownBy W' (some B)) : PackAt base Bp W' t K ve vl l :=
  ⟨h.1.kept hg (by intro e; exact hne (Option.some.inj e)), h.2.1.kept hg (.inr (own_ne_cells h.2.1 hc h1)), h.2.2.1.kept hg (.inr (own_ne_cells h.2.2.1 hc h4)), fun x hx => (h.2.2.2 x hx).beCell hc h1 h2 h3 hg⟩

theorem Moved.cells {w w' : World} {vl : Value} {n base : Nat} {xs : List Value} (h : Moved w vl w') (hL : w.ownsRow base 41 8 vl n xs) {B : Nat} {t : TypeId} {cs : Array Value} (hc : CellsAt w B t cs) (ht : 41 ≠ t) : CellsAt w' B t cs := by
  obtain ⟨w1, hb, hg⟩ := h
  exact cells_beside (hc.below hb hc.lt) (own_below hL hb) ht hg
theorem Moved.under {w w' : World} {vl : Value} {n base m : Nat} {xs : List Value} (h : Moved w vl w') (hL : w.ownsRow base 41 8 vl n xs) (hm : m ≤ base) (hw : m ≤ w.heap.size) : Below m w w' := by
  obtain ⟨w1, hb, hg⟩ := h
  exact (hb.mono hw).grown hg (Nat.le_trans hw hb.size) (fun q hq => Nat.le_trans hm (own_block hL q hq))

theorem off_len : ∀ (L : List Plc) (e : Int), offFrom e L ≤ L.length
  | [], _ => Nat.le_refl _
  | p :: r, e => by
    have := off_len r (e + szM p.mod)
    show (if p.first = e then 0 else 1) + offFrom _ r ≤ r.length + 1
    split <;> omega

end Go.Proofs.YthmohjgdcjafkadGreat

/- The contracts of package plan's planner: find, take, put, room. -/
namespace Go.Proofs.YthmohjgdcjafkadGreat
open Go.RowKit Go.PlainAid Go.Lib

set_option maxRecDepth 100000

/-- Lists that are short. -/
def Lens (l : List PV) : Prop := l.length ≤ 250 ∧ ∀ x ∈ l, x.mod.exps.length ≤ 255 ∧ x.mod.imps.length ≤ 255 ∧ x.mod.pats.length ≤ 255
theorem PackAt.rows {base Bp : Nat} {W : World} {t : TypeId} {K : Ker} {ve vl : Value} {l : List PV} (hp : PackAt base Bp W t K ve vl l) (hl : Lens l) : IsPlcs W.heap.size W vl l :=
  ⟨own_rows (C := pvC) (cells := PV.cell) (sz := 8) (fun _ => rfl) pvC_at hp.2.2.1 (by have := hl.1; omega), plc_rows hp.2.2.2 hl.2⟩
/-- What is turned at base or behind, and no registry's cells. -/
def Keeps (base : Nat) (W W' : World) : Prop := Below base W W' ∧ ∀ B c, B < W.heap.size → CellsAt W B 48 c → CellsAt W' B 48 c
theorem Keeps.trans {base : Nat} {W1 W2 W3 : World} (h1 : Keeps base W1 W2) (h2 : Keeps base W2 W3) : Keeps base W1 W3 :=
  ⟨h1.1.trans h2.1, fun B c hB hc => h2.2 B c (Nat.lt_of_lt_of_le hB h1.1.size) (h1.2 B c hB hc)⟩
theorem Keeps.of {base : Nat} {W W' : World} (h : Below W.heap.size W W') (hb : base ≤ W.heap.size) : Keeps base W W' := ⟨h.mono hb, fun _ _ hB hc => hc.below h hB⟩
theorem Keeps.row {base : Nat} {W W' : World} {n : Nat} {v : Value} {xs : List Value} (h : W.ownsRow base 41 8 v n xs) (hg : W.grownBy W' v.ownBlock) (hb : base ≤ W.heap.size) : Keeps base W W' :=
  ⟨(Below.refl base W).grown hg hb (fun q hq => (h.lt q hq).1), fun _ _ _ hc => cells_beside hc h (by decide) hg⟩
theorem Keeps.cell {base : Nat} {W W' : World} {Bp : Nat} {t : TypeId} {cs : Array Value} (hc : CellsAt W Bp t cs) (ht : 48 ≠ t) (hg : W.grownBy W' (some Bp)) (hbp : base ≤ Bp) : Keeps base W W' :=
  ⟨(Below.refl base W).grown hg (by have := hc.lt; omega) (fun q hq => by obtain rfl := Option.some.inj hq; exact hbp), fun B c _ h => h.kept hg (by
    intro e
    have e := Option.some.inj e
    subst e
    have h1 : W.heap[B]? = _ := hc
    have h2 : W.heap[B]? = _ := h
    rw [h1] at h2
    injection h2 with h2
    injection h2 with _ h2
    exact ht h2.symm)⟩

theorem plFind1_any (B : Nat) (name : ByteArray) (x : PV) (w : World) (hlt : B < w.heap.size) (hB : w.cell? ⟨B, 0, none⟩ = some (.string name)) (hat : PlcAt w.heap.size w x) :
    Calls Tryz.prog 118 #[x.val, .pointer (some ⟨B, 0, none⟩)] w fun e w' => e = .returned (.bool (x.mod.name == name)) ∧ Below w.heap.size w w' := by
  rw [← toList_beq2]
  obtain ⟨⟨pe, ke, e4, _⟩, ⟨pi, ki, e5, _⟩, ⟨pp, kp, e6, _⟩⟩ := hat
  obtain ⟨⟨N, ma, mi, T, es, is, ps⟩, ve, vi, vp, fi⟩ := x
  dsimp only at e4 e5 e6
  subst e4 e5 e6
  dsimp only [PV.val]
  generalize es.length = le at *
  generalize is.length = li at *
  generalize ps.length = lp at *
  go_enter Tryz.func118, Tryz.ntmps118
  go_wp2
  go_ret
  exact ⟨rfl, (Below.refl _ _).alloc (Nat.le_refl _) _⟩

theorem plPut1_any (B : Nat) (f : Int) (x : PV) (w : World) (hlt : B < w.heap.size) (hB : w.cell? ⟨B, 0, none⟩ = some (.int .i64 f)) (hat : PlcAt w.heap.size w x) :
    Calls Tryz.prog 119 #[x.val, .pointer (some ⟨B, 0, none⟩)] w fun e w' => e = .returned (.bool (decide (f < x.first))) ∧ Below w.heap.size w w' := by
  obtain ⟨⟨pe, ke, e4, _⟩, ⟨pi, ki, e5, _⟩, ⟨pp, kp, e6, _⟩⟩ := hat
  obtain ⟨⟨N, ma, mi, T, es, is, ps⟩, ve, vi, vp, fi⟩ := x
  dsimp only at e4 e5 e6
  subst e4 e5 e6
  dsimp only [PV.val]
  generalize es.length = le at *
  generalize is.length = li at *
  generalize ps.length = lp at *
  go_enter Tryz.func119, Tryz.ntmps119
  go_wp2
  go_ret
  exact ⟨rfl, (Below.refl _ _).alloc (Nat.le_refl _) _⟩

set_option maxHeartbeats 1000000 in
theorem plFind_any (base Bp : Nat) (K : Ker) (ve vl : Value) (l : List PV) (name : ByteArray) (w : World) (hp : PackAt base Bp w 104 K ve vl l) (hl : Lens l) :
    Calls Tryz.prog 72 #[.pointer (some ⟨Bp, 0, none⟩), .string name] w fun e w' => e = .returned (.int .i64 (ixFrom (fun x : PV => x.mod.name == name) 0 l)) ∧ Below w.heap.size w w' := by
  have hrow := hp.rows hl
  have HIX : Hid (∀ W B, Below w.heap.size w W → B < W.heap.size → W.cell? ⟨B, 0, none⟩ = some (.string name) → Calls Tryz.prog 34 #[vl, .func (.func 118) #[] #[.pointer (some ⟨B, 0, none⟩)]] W fun e w' => e = .returned (.int .i64 (ixFrom (fun x : PV => x.mod.name == name) 0 l)) ∧ Below W.heap.size W w') := by
    intro W B hb hlt hB
    exact ixPlc_any l vl 118 (.pointer (some ⟨B, 0, none⟩)) (fun w x => enters_of Tryz.func118 (by kernel_rfl) rfl _ w) _ W ((hrow.1.below hb).more hb.size) (fun x hx W' hb' => plFind1_any B name x W' (Nat.lt_of_lt_of_le hlt hb'.size) ((hb'.cell (p := ⟨B, 0, none⟩) hlt).trans hB) ((((((hrow.2 x hx).below hb).more hb.size)).below hb').more hb'.size))
  obtain ⟨va, vc, rfl⟩ := own_form hp.2.2.1
  have HC : Hid (CellsAt w Bp 104 #[.int .i64 K.major, .int .i64 K.minor, ve, .slice va l.length vc]) := hp.1
  have B0 : Below w.heap.size w (w.alloc (.cells #[.string name] 9)) := (Below.refl _ _).alloc (Nat.le_refl _) _
  have HB1 : Hid (Below w.heap.size w (w.alloc (.cells #[.string name] 9))) := B0
  have HN1 : Hid (CellsAt (w.alloc (.cells #[.string name] 9)) w.heap.size 9 #[.string name]) := CellsAt.new _ _ _
  have c := CellsAt.cell (hp.1.below B0 hp.1.lt) 3
  have hlt : Bp < (w.alloc (.cells #[.string name] 9)).heap.size := (hp.1.below B0 hp.1.lt).lt
  simp at c
  clear hrow hp hl B0
  generalize l.length = ll at *
  generalize ixFrom (fun x : PV => x.mod.name == name) 0 l = ix at *
  go_enter Tryz.func72, Tryz.ntmps72
  go_wp2_with fail
  refine (HIX.out _ _ HB1.out HN1.out.lt (HN1.out.cell 0)).mono ?_
  rintro e w2 ⟨rfl, b2⟩
  have B2 := HB1.out.trans (b2.mono HB1.out.size)
  clear b2 HIX HB1 HN1 c HC
  go_wp2
  go_ret
  exact ⟨rfl, B2⟩

set_option maxHeartbeats 4000000 in
theorem plTake_any (base Bp : Nat) (K : Ker) (ve vl : Value) (l : List PV) (i : Nat) (x : PV) (w : World) (hp : PackAt base Bp w 104 K ve vl l) (hl : Lens l) (hx : l[i]? = some x) (hb : base ≤ Bp) :
    Calls Tryz.prog 77 #[.pointer (some ⟨Bp, 0, none⟩), .int .i64 i] w fun e w' => e = .returned x.val ∧ (∃ vl', PackAt base Bp w' 104 K ve vl' (l.eraseIdx i)) ∧ Keeps base w w' := by
  obtain ⟨hcell, hE, hL, hP⟩ := hp
  have hjl : i < l.length := (List.getElem?_eq_some_iff.1 hx).1
  obtain ⟨g, cap, cur, rfl, -⟩ : ∃ g cap cur, vl = .slice (some ⟨g, 0, none⟩) l.length cap ∧ w.heap[g]? = some (.cells cur 41 (0, 0)) := by
    rcases hL.2 with ⟨_, h0⟩ | ⟨g, cap, cur, h1, _, h2, _⟩
    · omega
    · exact ⟨g, cap, cur, h1, h2⟩
  have hgw : g < w.heap.size := (hL.lt g rfl).2
  have hgb : base ≤ g := (hL.lt g rfl).1
  have hBw : Bp < w.heap.size := hcell.lt
  have hone : ∀ u ∈ l.flatMap pvC, u.oneCell' = true := pvs_one fun x hx => plc_rows hP hl.2 x hx
  have fl := fun j (hj : j < 8) => flat_at (C := pvC) (sz := 8) (fun _ => rfl) l i x j hx hj
  have cl := fun j (hj : j < 8) => (World.ownsRow.cellAt hL (i * 8 + j) (by omega)).trans (fl j hj)
  have hat := plc_rows hP hl.2 x (List.mem_of_getElem? hx)
  obtain ⟨⟨pe, ke, e4, -⟩, ⟨pi, ki, e5, -⟩, ⟨pp, kp, e6, -⟩⟩ := hat
  have HPB : Hid (∀ y ∈ l, OwnsPlc base w y) := hP
  have hcap := own_capB hL
  have HOE : Hid (w.ownsRow base 120 2 ve K.exps.length (K.exps.flatMap expC)) := hE
  have HOL : Hid (w.ownsRow base 41 8 (.slice (some ⟨g, 0, none⟩) l.length cap) l.length (l.flatMap pvC)) := hL
  have HXM : Hid (x ∈ l) := List.mem_of_getElem? hx
  obtain ⟨qe, je, rfl⟩ := own_form hE
  obtain ⟨⟨N, xa, xi, T, es, is, ps⟩, vxe, vxi, vxp, fi⟩ := x
  dsimp only [pvC, PV.val] at *
  subst e4 e5 e6
  have c0 : w.cell? ⟨g, i * 8, none⟩ = some (.string N) := cl 0 (by omega)
  have c1 : w.cell? ⟨g, i * 8 + 1, none⟩ = some (.int .i64 xa) := cl 1 (by omega)
  have c2 : w.cell? ⟨g, i * 8 + 2, none⟩ = some (.int .i64 xi) := cl 2 (by omega)
  have c3 : w.cell? ⟨g, i * 8 + 3, none⟩ = some (.string T) := cl 3 (by omega)
  have c4 : w.cell? ⟨g, i * 8 + 4, none⟩ = some (.slice pe es.length ke) := cl 4 (by omega)
  have c5 : w.cell? ⟨g, i * 8 + 5, none⟩ = some (.slice pi is.length ki) := cl 5 (by omega)
  have c6 : w.cell? ⟨g, i * 8 + 6, none⟩ = some (.slice pp ps.length kp) := cl 6 (by omega)
  have c7 : w.cell? ⟨g, i * 8 + 7, none⟩ = some (.int .i64 fi) := cl 7 (by omega)
  generalize es.length = le at *
  generalize is.length = li at *
  generalize ps.length = lp at *
  have b1 : Below w.heap.size w (w.alloc (.cells #[.string ⟨#[]⟩, .int .i64 0, .int .i64 0, .string ⟨#[]⟩, .slice none 0 0, .slice none 0 0, .slice none 0 0, .int .i64 0] 41)) := (Below.refl _ _).alloc (Nat.le_refl _) _
  have d0 := (b1.cell (p := ⟨g, i * 8, none⟩) hgw).trans c0
  have d1 := (b1.cell (p := ⟨g, i * 8 + 1, none⟩) hgw).trans c1
  have d2 := (b1.cell (p := ⟨g, i * 8 + 2, none⟩) hgw).trans c2
  have d3 := (b1.cell (p := ⟨g, i * 8 + 3, none⟩) hgw).trans c3
  have d4 := (b1.cell (p := ⟨g, i * 8 + 4, none⟩) hgw).trans c4
  have d5 := (b1.cell (p := ⟨g, i * 8 + 5, none⟩) hgw).trans c5
  have d6 := (b1.cell (p := ⟨g, i * 8 + 6, none⟩) hgw).trans c6
  have d7 := (b1.cell (p := ⟨g, i * 8 + 7, none⟩) hgw).trans c7
  have b2 : Below w.heap.size w ((w.alloc (.cells #[.string ⟨#[]⟩, .int .i64 0, .int .i64 0, .string ⟨#[]⟩, .slice none 0 0, .slice none 0 0, .slice none 0 0, .int .i64 0] 41)).alloc (.cells #[.string N, .int .i64 xa, .int .i64 xi, .string T, .slice pe le ke, .slice pi li ki, .slice pp lp kp, .int .i64 fi] 41)) := b1.alloc b1.size _
  have HB2 : Hid (Below w.heap.size w ((w.alloc (.cells #[.string ⟨#[]⟩, .int .i64 0, .int .i64 0, .string ⟨#[]⟩, .slice none 0 0, .slice none 0 0, .slice none 0 0, .int .i64 0] 41)).alloc (.cells #[.string N, .int .i64 xa, .int .i64 xi, .string T, .slice pe le ke, .slice pi li ki, .slice pp lp kp, .int .i64 fi] 41))) := b2
  have HR2 : Hid (CellsAt ((w.alloc (.cells #[.string ⟨#[]⟩, .int .i64 0, .int .i64 0, .string ⟨#[]⟩, .slice none 0 0, .slice none 0 0, .slice none 0 0, .int .i64 0] 41)).alloc (.cells #[.string N, .int .i64 xa, .int .i64 xi, .string T, .slice pe le ke, .slice pi li ki, .slice pp lp kp, .int .i64 fi] 41)) w.heap.size 41 #[.string ⟨#[]⟩, .int .i64 0, .int .i64 0, .string ⟨#[]⟩, .slice none 0 0, .slice none 0 0, .slice none 0 0, .int .i64 0]) := (CellsAt.new w 41 #[.string ⟨#[]⟩, .int .i64 0, .int .i64 0, .string ⟨#[]⟩, .slice none 0 0, .slice none 0 0, .slice none 0 0, .int .i64 0]).kept (World.grownBy_alloc _ _ none) (by simp)
  have HT2 : Hid (CellsAt ((w.alloc (.cells #[.string ⟨#[]⟩, .int .i64 0, .int .i64 0, .string ⟨#[]⟩, .slice none 0 0, .slice none 0 0, .slice none 0 0, .int .i64 0] 41)).alloc (.cells #[.string N, .int .i64 xa, .int .i64 xi, .string T, .slice pe le ke, .slice pi li ki, .slice pp lp kp, .int .i64 fi] 41)) (w.heap.size + 1) 41 #[.string N, .int .i64 xa, .int .i64 xi, .string T, .slice pe le ke, .slice pi li ki, .slice pp lp kp, .int .i64 fi]) := by
    have := CellsAt.new (w.alloc (.cells #[.string ⟨#[]⟩, .int .i64 0, .int .i64 0, .string ⟨#[]⟩, .slice none 0 0, .slice none 0 0, .slice none 0 0, .int .i64 0] 41)) 41 #[.string N, .int .i64 xa, .int .i64 xi, .string T, .slice pe le ke, .slice pi li ki, .slice pp lp kp, .int .i64 fi]
    rw [World.size_alloc] at this
    exact this
  have HC2 : Hid (CellsAt ((w.alloc (.cells #[.string ⟨#[]⟩, .int .i64 0, .int .i64 0, .string ⟨#[]⟩, .slice none 0 0, .slice none 0 0, .slice none 0 0, .int .i64 0] 41)).alloc (.cells #[.string N, .int .i64 xa, .int .i64 xi, .string T, .slice pe le ke, .slice pi li ki, .slice pp lp kp, .int .i64 fi] 41)) Bp 104 #[.int .i64 K.major, .int .i64 K.minor, .slice qe K.exps.length je, .slice (some ⟨g, 0, none⟩) l.length cap]) := hcell.below b2 hBw
  have HL2 : Hid (((w.alloc (.cells #[.string ⟨#[]⟩, .int .i64 0, .int .i64 0, .string ⟨#[]⟩, .slice none 0 0, .slice none 0 0, .slice none 0 0, .int .i64 0] 41)).alloc (.cells #[.string N, .int .i64 xa, .int .i64 xi, .string T, .slice pe le ke, .slice pi li ki, .slice pp lp kp, .int .i64 fi] 41)).ownsRow base 41 8 (.slice (some ⟨g, 0, none⟩) l.length cap) l.length (l.flatMap pvC)) := own_below hL b2
  have HD : Hid (∀ W : World, W.ownsRow base 41 8 (.slice (some ⟨g, 0, none⟩) l.length cap) l.length (l.flatMap pvC) → Calls Tryz.prog 121 #[.slice (some ⟨g, 0, none⟩) l.length cap, .int .i64 i, .int .i64 ((i : Int) + 1)] W fun e w' => e = .returned (.slice (some ⟨g, 0, none⟩) (l.length - 1) cap) ∧ w'.ownsRow base 41 8 (.slice (some ⟨g, 0, none⟩) (l.length - 1) cap) (l.length - 1) ((l.eraseIdx i).flatMap pvC) ∧ W.grownBy w' (some g)) := fun W h => delPlc_any g l.length cap i base l W h rfl hjl hone (by have := hl.1; omega)
  have HLN : Hid ((l.eraseIdx i).length = l.length - 1) := List.length_eraseIdx_of_lt hjl
  have p3 := CellsAt.cell (hcell.below b1 hBw) 3
  have pl := CellsAt.lt (hcell.below b1 hBw)
  simp at p3
  have hil : (i : Int) < (l.length : Int) := by omega
  have hi0 : ¬ ((i : Int) < 0) := by omega
  have hwi : IntKind.i64.wrap ((i : Int) + 1) = (i : Int) + 1 := by have := hl.1; rw [IntKind.wrap_i64]; omega
  clear b1 b2 c0 c1 c2 c3 c4 c5 c6 c7 hcell hE hL hP hone fl cl hx hcap hl
  go_enter Tryz.func77, Tryz.ntmps77
  go_wp2_with fail
  have HK2 : Hid (Keeps base w ((w.alloc (.cells #[.string ⟨#[]⟩, .int .i64 0, .int .i64 0, .string ⟨#[]⟩, .slice none 0 0, .slice none 0 0, .slice none 0 0, .int .i64 0] 41)).alloc (.cells #[.string N, .int .i64 xa, .int .i64 xi, .string T, .slice pe le ke, .slice pi li ki, .slice pp lp kp, .int .i64 fi] 41))) := Keeps.of HB2.out (by omega)
  have HE2 : Hid (((w.alloc (.cells #[.string ⟨#[]⟩, .int .i64 0, .int .i64 0, .string ⟨#[]⟩, .slice none 0 0, .slice none 0 0, .slice none 0 0, .int .i64 0] 41)).alloc (.cells #[.string N, .int .i64 xa, .int .i64 xi, .string T, .slice pe le ke, .slice pi li ki, .slice pp lp kp, .int .i64 fi] 41)).ownsRow base 120 2 (.slice qe K.exps.length je) K.exps.length (K.exps.flatMap expC)) := own_below HOE.out HB2.out
  have HP2 : Hid (∀ y ∈ l, OwnsPlc base ((w.alloc (.cells #[.string ⟨#[]⟩, .int .i64 0, .int .i64 0, .string ⟨#[]⟩, .slice none 0 0, .slice none 0 0, .slice none 0 0, .int .i64 0] 41)).alloc (.cells #[.string N, .int .i64 xa, .int .i64 xi, .string T, .slice pe le ke, .slice pi li ki, .slice pp lp kp, .int .i64 fi] 41)) y) := fun y hy => (HPB.out y hy).below HB2.out
  refine (HD.out _ HL2.out).mono ?_
  have hsz : w.heap.size + 1 < ((w.alloc (.cells #[.string ⟨#[]⟩, .int .i64 0, .int .i64 0, .string ⟨#[]⟩, .slice none 0 0, .slice none 0 0, .slice none 0 0, .int .i64 0] 41)).alloc (.cells #[.string N, .int .i64 xa, .int .i64 xi, .string T, .slice pe le ke, .slice pi li ki, .slice pp lp kp, .int .i64 fi] 41)).heap.size := HT2.out.lt
  clear HD HB2 HOE HPB HOL p3 pl d0 d1 d2 d3 d4 d5 d6 d7
  generalize ((w.alloc (.cells #[.string ⟨#[]⟩, .int .i64 0, .int .i64 0, .string ⟨#[]⟩, .slice none 0 0, .slice none 0 0, .slice none 0 0, .int .i64 0] 41)).alloc (.cells #[.string N, .int .i64 xa, .int .i64 xi, .string T, .slice pe le ke, .slice pi li ki, .slice pp lp kp, .int .i64 fi] 41)) = w2 at *
  rintro e w3 ⟨rfl, ho3, hg3⟩
  have HK3 : Hid (Keeps base w w3) := HK2.out.trans (Keeps.row HL2.out hg3 (by omega))
  have HC3 : Hid (CellsAt w3 Bp 104 #[.int .i64 K.major, .int .i64 K.minor, .slice qe K.exps.length je, .slice (some ⟨g, 0, none⟩) l.length cap]) := cells_beside HC2.out HL2.out (by decide) hg3
  have HR3 : Hid (CellsAt w3 w.heap.size 41 #[.string ⟨#[]⟩, .int .i64 0, .int .i64 0, .string ⟨#[]⟩, .slice none 0 0, .slice none 0 0, .slice none 0 0, .int .i64 0]) := HR2.out.kept hg3 (by intro e; have := Option.some.inj e; omega)
  have HT3 : Hid (CellsAt w3 (w.heap.size + 1) 41 #[.string N, .int .i64 xa, .int .i64 xi, .string T, .slice pe le ke, .slice pi li ki, .slice pp lp kp, .int .i64 fi]) := HT2.out.kept hg3 (by intro e; have := Option.some.inj e; omega)
  have HE3 : Hid (w3.ownsRow base 120 2 (.slice qe K.exps.length je) K.exps.length (K.exps.flatMap expC)) := own_beside HE2.out HL2.out (by decide) hg3
  have HP3 : Hid (∀ y ∈ l, OwnsPlc base w3 y) := fun y hy => (HP2.out y hy).beside HL2.out hg3
  have HL3 : Hid (w3.ownsRow base 41 8 (.slice (some ⟨g, 0, none⟩) (l.length - 1) cap) (l.length - 1) ((l.eraseIdx i).flatMap pvC)) := ho3
  have hsz3 : w.heap.size + 1 < w3.heap.size := Nat.lt_of_lt_of_le hsz hg3.size
  have p3 := CellsAt.cell HC3.out 3
  have f3 := CellsAt.frozen HC3.out 3
  have pl := CellsAt.lt HC3.out
  simp at p3
  clear HK2 HC2 HR2 HT2 HE2 HP2 HL2 hg3 ho3 hsz
  go_upto_region 3 with fail
  have hG4 := grown_set w3 Bp 3 (.slice (some ⟨g, 0, none⟩) (l.length - 1) cap)
  have HK4 : Hid (Keeps base w (w3.setCell ⟨Bp, 3, none⟩ (.slice (some ⟨g, 0, none⟩) (l.length - 1) cap))) := HK3.out.trans (Keeps.cell HC3.out (by decide) hG4 hb)
  have HC4 : Hid (CellsAt (w3.setCell ⟨Bp, 3, none⟩ (.slice (some ⟨g, 0, none⟩) (l.length - 1) cap)) Bp 104 #[.int .i64 K.major, .int .i64 K.minor, .slice qe K.exps.length je, .slice (some ⟨g, 0, none⟩) (l.length - 1) cap]) := CellsAt.set 3 (.slice (some ⟨g, 0, none⟩) (l.length - 1) cap) HC3.out
  have HR4 : Hid (CellsAt (w3.setCell ⟨Bp, 3, none⟩ (.slice (some ⟨g, 0, none⟩) (l.length - 1) cap)) w.heap.size 41 #[.string ⟨#[]⟩, .int .i64 0, .int .i64 0, .string ⟨#[]⟩, .slice none 0 0, .slice none 0 0, .slice none 0 0, .int .i64 0]) := HR3.out.kept hG4 (by intro e; have := Option.some.inj e; omega)
  have HT4 : Hid (CellsAt (w3.setCell ⟨Bp, 3, none⟩ (.slice (some ⟨g, 0, none⟩) (l.length - 1) cap)) (w.heap.size + 1) 41 #[.string N, .int .i64 xa, .int .i64 xi, .string T, .slice pe le ke, .slice pi li ki, .slice pp lp kp, .int .i64 fi]) := HT3.out.kept hG4 (by intro e; have := Option.some.inj e; omega)
  have HE4 : Hid ((w3.setCell ⟨Bp, 3, none⟩ (.slice (some ⟨g, 0, none⟩) (l.length - 1) cap)).ownsRow base 120 2 (.slice qe K.exps.length je) K.exps.length (K.exps.flatMap expC)) := HE3.out.kept hG4 (.inr (own_ne_cells HE3.out HC3.out (by decide)))
  have HP4 : Hid (∀ y ∈ l, OwnsPlc base (w3.setCell ⟨Bp, 3, none⟩ (.slice (some ⟨g, 0, none⟩) (l.length - 1) cap)) y) := fun y hy => (HP3.out y hy).beCell HC3.out (by decide) (by decide) (by decide) hG4
  have HL4 : Hid ((w3.setCell ⟨Bp, 3, none⟩ (.slice (some ⟨g, 0, none⟩) (l.length - 1) cap)).ownsRow base 41 8 (.slice (some ⟨g, 0, none⟩) (l.length - 1) cap) (l.length - 1) ((l.eraseIdx i).flatMap pvC)) := HL3.out.kept hG4 (.inr (own_ne_cells HL3.out HC3.out (by decide)))
  clear HK3 HC3 HR3 HT3 HE3 HP3 HL3 p3 f3 pl hG4
  generalize (w3.setCell ⟨Bp, 3, none⟩ (.slice (some ⟨g, 0, none⟩) (l.length - 1) cap)) = w4 at *
  have t0 := CellsAt.cell HT4.out 0
  have t1 := CellsAt.cell HT4.out 1
  have t2 := CellsAt.cell HT4.out 2
  have t3 := CellsAt.cell HT4.out 3
  have t4 := CellsAt.cell HT4.out 4
  have t5 := CellsAt.cell HT4.out 5
  have t6 := CellsAt.cell HT4.out 6
  have t7 := CellsAt.cell HT4.out 7
  have tl := CellsAt.lt HT4.out
  have r0 := CellsAt.cell HR4.out 0
  have s0 := CellsAt.frozen HR4.out 0
  have r1 := CellsAt.cell HR4.out 1
  have s1 := CellsAt.frozen HR4.out 1
  have r2 := CellsAt.cell HR4.out 2
  have s2 := CellsAt.frozen HR4.out 2
  have r3 := CellsAt.cell HR4.out 3
  have s3 := CellsAt.frozen HR4.out 3
  have r4 := CellsAt.cell HR4.out 4
  have s4 := CellsAt.frozen HR4.out 4
  have r5 := CellsAt.cell HR4.out 5
  have s5 := CellsAt.frozen HR4.out 5
  have r6 := CellsAt.cell HR4.out 6
  have s6 := CellsAt.frozen HR4.out 6
  have r7 := CellsAt.cell HR4.out 7
  have s7 := CellsAt.frozen HR4.out 7
  have rl := CellsAt.lt HR4.out
  simp at t0 t1 t2 t3 t4 t5 t6 t7 r0 r1 r2 r3 r4 r5 r6 r7
  go_wp2
  clear t0 t1 t2 t3 t4 t5 t6 t7 r0 r1 r2 r3 r4 r5 r6 r7 s0 s1 s2 s3 s4 s5 s6 s7 rl tl
  have hF := sets8 (W := w4) (B := w.heap.size) (t := 41) HR4.out (.string N) (.int .i64 xa) (.int .i64 xi) (.string T) (.slice pe le ke) (.slice pi li ki) (.slice pp lp kp) (.int .i64 fi)
  have hG := sets8_grown w4 w.heap.size (.string N) (.int .i64 xa) (.int .i64 xi) (.string T) (.slice pe le ke) (.slice pi li ki) (.slice pp lp kp) (.int .i64 fi)
  (try simp only [Exit.inBlock, Exit.then])
  refine bodyPost_ret (results_cell_row rfl _ _ _ _ _ _ _ rfl hF Tryz.underlying41 rfl (by kernel_rfl)) rfl ?_
  refine ⟨rfl, ⟨(.slice (some ⟨g, 0, none⟩) (l.length - 1) cap), HC4.out.kept hG (by intro e; have := Option.some.inj e; omega), HE4.out.kept hG (.inr (own_ne_cells HE4.out HR4.out (by decide))), ?_, fun y hy => (HP4.out y (List.mem_of_mem_eraseIdx hy)).beCell HR4.out (by decide) (by decide) (by decide) hG⟩, HK4.out.trans (Keeps.cell HR4.out (by decide) hG (by omega))⟩
  rw [HLN.out]
  exact HL4.out.kept hG (.inr (by intro e; have e : some g = some w.heap.size := e; have := Option.some.inj e; omega))

end Go.Proofs.YthmohjgdcjafkadGreat
