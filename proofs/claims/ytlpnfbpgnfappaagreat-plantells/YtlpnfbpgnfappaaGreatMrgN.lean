/- Texts that are laid together. -/
import Derived.Test.YtlpnfbpgnfappaaGreatMrgM
import Derived.Test.YtlpnfbpgnfappaaGreatMrgK
import Derived.Laws.ResultCell
import Derived.Test.YtlpnfbpgnfappaaGreatMrgL
import Derived.Lib.QuietBelow

/- The contract of package compact's step. -/
namespace Go.Proofs.YtlpnfbpgnfappaaGreat
open Go.RowKit Go.PlainAid Go.Lib

set_option maxRecDepth 100000

/-- A placed module moved. -/
def PV.at (x : PV) (f : Int) : PV := ⟨x.mod, x.ve, x.vi, x.vp, f⟩
theorem plc_rows {base : Nat} {W : World} {l : List PV} (hP : ∀ x ∈ l, OwnsPlc base W x) (h : ∀ x ∈ l, x.mod.exps.length ≤ 255 ∧ x.mod.imps.length ≤ 255 ∧ x.mod.pats.length ≤ 255) : ∀ x ∈ l, PlcAt W.heap.size W x := fun x hx => (hP x hx).plcAt (h x hx).1 (h x hx).2.1 (h x hx).2.2
theorem reg_lens {l : List PV} (h0 : chkReg (l.map PV.plc) = 0) : l.length ≤ 8 ∧ ∀ x ∈ l, x.mod.exps.length ≤ 255 ∧ x.mod.imps.length ≤ 255 ∧ x.mod.pats.length ≤ 255 := by
  obtain ⟨h1, h2, _⟩ := chkReg_zero.1 h0
  rw [List.length_map] at h1
  refine ⟨h1, fun x hx => ?_⟩
  have := chkMod_exps (h2 x.plc (List.mem_map_of_mem hx))
  have e : x.plc.mod = x.mod := rfl
  rw [e] at this
  omega

/-- What a growth of the row of modules leaves. -/
def Moved (w : World) (vl : Value) (w' : World) : Prop := ∃ w1, Below w.heap.size w w1 ∧ w1.grownBy w' vl.ownBlock

end Go.Proofs.YtlpnfbpgnfappaaGreat

/- The contracts of package compact's packed, and of what it is handed. -/
namespace Go.Proofs.YtlpnfbpgnfappaaGreat
open Go.RowKit Go.PlainAid Go.Lib

set_option maxRecDepth 100000

theorem fits_mods {l l' : List PV} (h : l'.map (·.mod) = l.map (·.mod)) (hf : ∀ x ∈ l, x.mod.fits) : ∀ x ∈ l', x.mod.fits := fun x hx => by
  have : x.mod ∈ l'.map (·.mod) := List.mem_map_of_mem hx
  rw [h] at this
  obtain ⟨y, hy, e⟩ := List.mem_map.1 this
  rw [← e]
  exact hf y hy
theorem mods_plc {l l' : List PV} (h : l'.map PV.plc = l.map PV.plc) : l'.map (·.mod) = l.map (·.mod) := by
  have := congrArg (List.map fun p : Plc => p.mod) h
  rw [List.map_map, List.map_map] at this
  exact this
theorem rg_lens {K : Ker} {l : List PV} (h : chkRg K (l.map PV.plc) = 0) : K.exps.length ≤ 255 ∧ l.length ≤ 255 ∧ (∀ x ∈ l, x.mod.exps.length ≤ 255 ∧ x.mod.imps.length ≤ 255 ∧ x.mod.pats.length ≤ 255) ∧ chkReg (l.map PV.plc) = 0 := by
  obtain ⟨h1, h2, _⟩ := chkLink_zero (chkRg_zero h).1
  have h3 := (chkKer_zero h1).1
  obtain ⟨h4, h5⟩ := reg_lens h2
  exact ⟨by omega, by omega, h5, h2⟩

/-- A registry of one's own, in a row of four cells. -/
def PackAt (base Bp : Nat) (W : World) (t : TypeId) (K : Ker) (ve vl : Value) (l : List PV) : Prop :=
  CellsAt W Bp t #[.int .i64 K.major, .int .i64 K.minor, ve, vl] ∧ W.ownsRow base 129 2 ve K.exps.length (K.exps.flatMap expC) ∧ W.ownsRow base 57 8 vl l.length (l.flatMap pvC) ∧ ∀ x ∈ l, OwnsPlc base W x

end Go.Proofs.YtlpnfbpgnfappaaGreat

/- The contracts of what package compact hands to packed. -/
namespace Go.Proofs.YtlpnfbpgnfappaaGreat
open Go.RowKit Go.PlainAid Go.Lib

set_option maxRecDepth 100000

theorem PackAt.below {base Bp : Nat} {W W' : World} {t : TypeId} {K : Ker} {ve vl : Value} {l : List PV} (h : PackAt base Bp W t K ve vl l) (hb : Below W.heap.size W W') : PackAt base Bp W' t K ve vl l :=
  ⟨h.1.below hb h.1.lt, own_below h.2.1 hb, own_below h.2.2.1 hb, fun x hx => (h.2.2.2 x hx).below hb⟩
theorem PackAt.beCell {base Bp B : Nat} {W W' : World} {t s : TypeId} {K : Ker} {ve vl : Value} {l : List PV} {cs : Array Value} (h : PackAt base Bp W t K ve vl l) (hc : CellsAt W B s cs) (hne : Bp ≠ B) (h1 : 129 ≠ s) (h2 : 106 ≠ s) (h3 : 113 ≠ s) (h4 : 57 ≠ s) (hg : W.grownBy W' (some B)) : PackAt base Bp W' t K ve vl l :=
  ⟨h.1.kept hg (by intro e; exact hne (Option.some.inj e)), h.2.1.kept hg (.inr (own_ne_cells h.2.1 hc h1)), h.2.2.1.kept hg (.inr (own_ne_cells h.2.2.1 hc h4)), fun x hx => (h.2.2.2 x hx).beCell hc h1 h2 h3 hg⟩

theorem Moved.cells {w w' : World} {vl : Value} {n base : Nat} {xs : List Value} (h : Moved w vl w') (hL : w.ownsRow base 57 8 vl n xs) {B : Nat} {t : TypeId} {cs : Array Value} (hc : CellsAt w B t cs) (ht : 57 ≠ t) : CellsAt w' B t cs := by
  obtain ⟨w1, hb, hg⟩ := h
  exact cells_beside (hc.below hb hc.lt) (own_below hL hb) ht hg
theorem Moved.under {w w' : World} {vl : Value} {n base m : Nat} {xs : List Value} (h : Moved w vl w') (hL : w.ownsRow base 57 8 vl n xs) (hm : m ≤ base) (hw : m ≤ w.heap.size) : Below m w w' := by
  obtain ⟨w1, hb, hg⟩ := h
  exact (hb.mono hw).grown hg (Nat.le_trans hw hb.size) (fun q hq => Nat.le_trans hm (own_block hL q hq))

end Go.Proofs.YtlpnfbpgnfappaaGreat

/- The contracts of package plan's planner: find, take, put, room. -/
namespace Go.Proofs.YtlpnfbpgnfappaaGreat
open Go.RowKit Go.PlainAid Go.Lib

set_option maxRecDepth 100000

/-- Lists that are short. -/
def Lens (l : List PV) : Prop := l.length ≤ 250 ∧ ∀ x ∈ l, x.mod.exps.length ≤ 255 ∧ x.mod.imps.length ≤ 255 ∧ x.mod.pats.length ≤ 255
theorem PackAt.rows {base Bp : Nat} {W : World} {t : TypeId} {K : Ker} {ve vl : Value} {l : List PV} (hp : PackAt base Bp W t K ve vl l) (hl : Lens l) : IsPlcs W.heap.size W vl l :=
  ⟨own_rows (C := pvC) (cells := PV.cell) (sz := 8) (fun _ => rfl) pvC_at hp.2.2.1 (by have := hl.1; omega), plc_rows hp.2.2.2 hl.2⟩
/-- What is turned at base or behind, and no registry's cells. -/
def Keeps (base : Nat) (W W' : World) : Prop := Below base W W' ∧ ∀ B c, B < W.heap.size → CellsAt W B 27 c → CellsAt W' B 27 c
theorem Keeps.trans {base : Nat} {W1 W2 W3 : World} (h1 : Keeps base W1 W2) (h2 : Keeps base W2 W3) : Keeps base W1 W3 :=
  ⟨h1.1.trans h2.1, fun B c hB hc => h2.2 B c (Nat.lt_of_lt_of_le hB h1.1.size) (h1.2 B c hB hc)⟩
theorem Keeps.of {base : Nat} {W W' : World} (h : Below W.heap.size W W') (hb : base ≤ W.heap.size) : Keeps base W W' := ⟨h.mono hb, fun _ _ hB hc => hc.below h hB⟩
theorem Keeps.row {base : Nat} {W W' : World} {n : Nat} {v : Value} {xs : List Value} (h : W.ownsRow base 57 8 v n xs) (hg : W.grownBy W' v.ownBlock) (hb : base ≤ W.heap.size) : Keeps base W W' :=
  ⟨(Below.refl base W).grown hg hb (fun q hq => (h.lt q hq).1), fun _ _ _ hc => cells_beside hc h (by decide) hg⟩
theorem Keeps.cell {base : Nat} {W W' : World} {Bp : Nat} {t : TypeId} {cs : Array Value} (hc : CellsAt W Bp t cs) (ht : 27 ≠ t) (hg : W.grownBy W' (some Bp)) (hbp : base ≤ Bp) : Keeps base W W' :=
  ⟨(Below.refl base W).grown hg (by have := hc.lt; omega) (fun q hq => by obtain rfl := Option.some.inj hq; exact hbp), fun B c _ h => h.kept hg (by
    intro e
    have e := Option.some.inj e
    subst e
    have h1 : W.heap[B]? = _ := hc
    have h2 : W.heap[B]? = _ := h
    rw [h1] at h2
    injection h2 with h2
    injection h2 with _ h2
    exact ht h2.symm)⟩

theorem plFind1_any (B : Nat) (name : ByteArray) (x : PV) (w : World) (hlt : B < w.heap.size) (hB : w.cell? ⟨B, 0, none⟩ = some (.string name)) (hat : PlcAt w.heap.size w x) :
    Calls Tryz.prog 92 #[x.val, .pointer (some ⟨B, 0, none⟩)] w fun e w' => e = .returned (.bool (x.mod.name == name)) ∧ Below w.heap.size w w' := by
  rw [← toList_beq2]
  obtain ⟨⟨pe, ke, e4, _⟩, ⟨pi, ki, e5, _⟩, ⟨pp, kp, e6, _⟩⟩ := hat
  obtain ⟨⟨N, ma, mi, T, es, is, ps⟩, ve, vi, vp, fi⟩ := x
  dsimp only at e4 e5 e6
  subst e4 e5 e6
  dsimp only [PV.val]
  generalize es.length = le at *
  generalize is.length = li at *
  generalize ps.length = lp at *
  go_enter Tryz.func92, Tryz.ntmps92
  go_wp2
  go_ret
  exact ⟨rfl, (Below.refl _ _).alloc (Nat.le_refl _) _⟩

theorem plPut1_any (B : Nat) (f : Int) (x : PV) (w : World) (hlt : B < w.heap.size) (hB : w.cell? ⟨B, 0, none⟩ = some (.int .i64 f)) (hat : PlcAt w.heap.size w x) :
    Calls Tryz.prog 95 #[x.val, .pointer (some ⟨B, 0, none⟩)] w fun e w' => e = .returned (.bool (decide (f < x.first))) ∧ Below w.heap.size w w' := by
  obtain ⟨⟨pe, ke, e4, _⟩, ⟨pi, ki, e5, _⟩, ⟨pp, kp, e6, _⟩⟩ := hat
  obtain ⟨⟨N, ma, mi, T, es, is, ps⟩, ve, vi, vp, fi⟩ := x
  dsimp only at e4 e5 e6
  subst e4 e5 e6
  dsimp only [PV.val]
  generalize es.length = le at *
  generalize is.length = li at *
  generalize ps.length = lp at *
  go_enter Tryz.func95, Tryz.ntmps95
  go_wp2
  go_ret
  exact ⟨rfl, (Below.refl _ _).alloc (Nat.le_refl _) _⟩

set_option maxHeartbeats 1000000 in
theorem plFind_any (base Bp : Nat) (K : Ker) (ve vl : Value) (l : List PV) (name : ByteArray) (w : World) (hp : PackAt base Bp w 77 K ve vl l) (hl : Lens l) :
    Calls Tryz.prog 38 #[.pointer (some ⟨Bp, 0, none⟩), .string name] w fun e w' => e = .returned (.int .i64 (ixFrom (fun x : PV => x.mod.name == name) 0 l)) ∧ Below w.heap.size w w' := by
  have hrow := hp.rows hl
  have HIX : Hid (∀ W B, Below w.heap.size w W → B < W.heap.size → W.cell? ⟨B, 0, none⟩ = some (.string name) → Calls Tryz.prog 79 #[vl, .func (.func 92) #[] #[.pointer (some ⟨B, 0, none⟩)]] W fun e w' => e = .returned (.int .i64 (ixFrom (fun x : PV => x.mod.name == name) 0 l)) ∧ Below W.heap.size W w') := by
    intro W B hb hlt hB
    exact ixPlc_any l vl 92 (.pointer (some ⟨B, 0, none⟩)) (fun w x => enters_of Tryz.func92 (by kernel_rfl) rfl _ w) _ W ((hrow.1.below hb).more hb.size) (fun x hx W' hb' => plFind1_any B name x W' (Nat.lt_of_lt_of_le hlt hb'.size) ((hb'.cell (p := ⟨B, 0, none⟩) hlt).trans hB) ((((((hrow.2 x hx).below hb).more hb.size)).below hb').more hb'.size))
  obtain ⟨va, vc, rfl⟩ := own_form hp.2.2.1
  have HC : Hid (CellsAt w Bp 77 #[.int .i64 K.major, .int .i64 K.minor, ve, .slice va l.length vc]) := hp.1
  have B0 : Below w.heap.size w (w.alloc (.cells #[.string name] 9)) := (Below.refl _ _).alloc (Nat.le_refl _) _
  have HB1 : Hid (Below w.heap.size w (w.alloc (.cells #[.string name] 9))) := B0
  have HN1 : Hid (CellsAt (w.alloc (.cells #[.string name] 9)) w.heap.size 9 #[.string name]) := CellsAt.new _ _ _
  have c := CellsAt.cell (hp.1.below B0 hp.1.lt) 3
  have hlt : Bp < (w.alloc (.cells #[.string name] 9)).heap.size := (hp.1.below B0 hp.1.lt).lt
  simp at c
  clear hrow hp hl B0
  generalize l.length = ll at *
  generalize ixFrom (fun x : PV => x.mod.name == name) 0 l = ix at *
  go_enter Tryz.func38, Tryz.ntmps38
  go_wp2_with fail
  refine (HIX.out _ _ HB1.out HN1.out.lt (HN1.out.cell 0)).mono ?_
  rintro e w2 ⟨rfl, b2⟩
  have B2 := HB1.out.trans (b2.mono HB1.out.size)
  clear b2 HIX HB1 HN1 c HC
  go_wp2
  go_ret
  exact ⟨rfl, B2⟩

set_option maxHeartbeats 4000000 in
theorem plTake_any (base Bp : Nat) (K : Ker) (ve vl : Value) (l : List PV) (i : Nat) (x : PV) (w : World) (hp : PackAt base Bp w 77 K ve vl l) (hl : Lens l) (hx : l[i]? = some x) (hb : base ≤ Bp) :
    Calls Tryz.prog 43 #[.pointer (some ⟨Bp, 0, none⟩), .int .i64 i] w fun e w' => e = .returned x.val ∧ (∃ vl', PackAt base Bp w' 77 K ve vl' (l.eraseIdx i)) ∧ Keeps base w w' := by
  obtain ⟨hcell, hE, hL, hP⟩ := hp
  have hjl : i < l.length := (List.getElem?_eq_some_iff.1 hx).1
  obtain ⟨g, cap, cur, rfl, -⟩ : ∃ g cap cur, vl = .slice (some ⟨g, 0, none⟩) l.length cap ∧ w.heap[g]? = some (.cells cur 57 (0, 0)) := by
    rcases hL.2 with ⟨_, h0⟩ | ⟨g, cap, cur, h1, _, h2, _⟩
    · omega
    · exact ⟨g, cap, cur, h1, h2⟩
  have hgw : g < w.heap.size := (hL.lt g rfl).2
  have hgb : base ≤ g := (hL.lt g rfl).1
  have hBw : Bp < w.heap.size := hcell.lt
  have hone : ∀ u ∈ l.flatMap pvC, u.oneCell' = true := pvs_one fun x hx => plc_rows hP hl.2 x hx
  have fl := fun j (hj : j < 8) => flat_at (C := pvC) (sz := 8) (fun _ => rfl) l i x j hx hj
  have cl := fun j (hj : j < 8) => (World.ownsRow.cellAt hL (i * 8 + j) (by omega)).trans (fl j hj)
  have hat := plc_rows hP hl.2 x (List.mem_of_getElem? hx)
  obtain ⟨⟨pe, ke, e4, -⟩, ⟨pi, ki, e5, -⟩, ⟨pp, kp, e6, -⟩⟩ := hat
  have HPB : Hid (∀ y ∈ l, OwnsPlc base w y) := hP
  have hcap := own_capB hL
  have HOE : Hid (w.ownsRow base 129 2 ve K.exps.length (K.exps.flatMap expC)) := hE
  have HOL : Hid (w.ownsRow base 57 8 (.slice (some ⟨g, 0, none⟩) l.length cap) l.length (l.flatMap pvC)) := hL
  have HXM : Hid (x ∈ l) := List.mem_of_getElem? hx
  obtain ⟨qe, je, rfl⟩ := own_form hE
  obtain ⟨⟨N, xa, xi, T, es, is, ps⟩, vxe, vxi, vxp, fi⟩ := x
  dsimp only [pvC, PV.val] at *
  subst e4 e5 e6
  have c0 : w.cell? ⟨g, i * 8, none⟩ = some (.string N) := cl 0 (by omega)
  have c1 : w.cell? ⟨g, i * 8 + 1, none⟩ = some (.int .i64 xa) := cl 1 (by omega)
  have c2 : w.cell? ⟨g, i * 8 + 2, none⟩ = some (.int .i64 xi) := cl 2 (by omega)
  have c3 : w.cell? ⟨g, i * 8 + 3, none⟩ = some (.string T) := cl 3 (by omega)
  have c4 : w.cell? ⟨g, i * 8 + 4, none⟩ = some (.slice pe es.length ke) := cl 4 (by omega)
  have c5 : w.cell? ⟨g, i * 8 + 5, none⟩ = some (.slice pi is.length ki) := cl 5 (by omega)
  have c6 : w.cell? ⟨g, i * 8 + 6, none⟩ = some (.slice pp ps.length kp) := cl 6 (by omega)
  have c7 : w.cell? ⟨g, i * 8 + 7, none⟩ = some (.int .i64 fi) := cl 7 (by omega)
  generalize es.length = le at *
  generalize is.length = li at *
  generalize ps.length = lp at *
  have b1 : Below w.heap.size w (w.alloc (.cells #[.string ⟨#[]⟩, .int .i64 0, .int .i64 0, .string ⟨#[]⟩, .slice none 0 0, .slice none 0 0, .slice none 0 0, .int .i64 0] 57)) := (Below.refl _ _).alloc (Nat.le_refl _) _
  have d0 := (b1.cell (p := ⟨g, i * 8, none⟩) hgw).trans c0
  have d1 := (b1.cell (p := ⟨g, i * 8 + 1, none⟩) hgw).trans c1
  have d2 := (b1.cell (p := ⟨g, i * 8 + 2, none⟩) hgw).trans c2
  have d3 := (b1.cell (p := ⟨g, i * 8 + 3, none⟩) hgw).trans c3
  have d4 := (b1.cell (p := ⟨g, i * 8 + 4, none⟩) hgw).trans c4
  have d5 := (b1.cell (p := ⟨g, i * 8 + 5, none⟩) hgw).trans c5
  have d6 := (b1.cell (p := ⟨g, i * 8 + 6, none⟩) hgw).trans c6
  have d7 := (b1.cell (p := ⟨g, i * 8 + 7, none⟩) hgw).trans c7
  have b2 : Below w.heap.size w ((w.alloc (.cells #[.string ⟨#[]⟩, .int .i64 0, .int .i64 0, .string ⟨#[]⟩, .slice none 0 0, .slice none 0 0, .slice none 0 0, .int .i64 0] 57)).alloc (.cells #[.string N, .int .i64 xa, .int .i64 xi, .string T, .slice pe le ke, .slice pi li ki, .slice pp lp kp, .int .i64 fi] 57)) := b1.alloc b1.size _
  have HB2 : Hid (Below w.heap.size w ((w.alloc (.cells #[.string ⟨#[]⟩, .int .i64 0, .int .i64 0, .string ⟨#[]⟩, .slice none 0 0, .slice none 0 0, .slice none 0 0, .int .i64 0] 57)).alloc (.cells #[.string N, .int .i64 xa, .int .i64 xi, .string T, .slice pe le ke, .slice pi li ki, .slice pp lp kp, .int .i64 fi] 57))) := b2
  have HR2 : Hid (CellsAt ((w.alloc (.cells #[.string ⟨#[]⟩, .int .i64 0, .int .i64 0, .string ⟨#[]⟩, .slice none 0 0, .slice none 0 0, .slice none 0 0, .int .i64 0] 57)).alloc (.cells #[.string N, .int .i64 xa, .int .i64 xi, .string T, .slice pe le ke, .slice pi li ki, .slice pp lp kp, .int .i64 fi] 57)) w.heap.size 57 #[.string ⟨#[]⟩, .int .i64 0, .int .i64 0, .string ⟨#[]⟩, .slice none 0 0, .slice none 0 0, .slice none 0 0, .int .i64 0]) := (CellsAt.new w 57 #[.string ⟨#[]⟩, .int .i64 0, .int .i64 0, .string ⟨#[]⟩, .slice none 0 0, .slice none 0 0, .slice none 0 0, .int .i64 0]).kept (World.grownBy_alloc _ _ none) (by simp)
  have HT2 : Hid (CellsAt ((w.alloc (.cells #[.string ⟨#[]⟩, .int .i64 0, .int .i64 0, .string ⟨#[]⟩, .slice none 0 0, .slice none 0 0, .slice none 0 0, .int .i64 0] 57)).alloc (.cells #[.string N, .int .i64 xa, .int .i64 xi, .string T, .slice pe le ke, .slice pi li ki, .slice pp lp kp, .int .i64 fi] 57)) (w.heap.size + 1) 57 #[.string N, .int .i64 xa, .int .i64 xi, .string T, .slice pe le ke, .slice pi li ki, .slice pp lp kp, .int .i64 fi]) := by
    have := CellsAt.new (w.alloc (.cells #[.string ⟨#[]⟩, .int .i64 0, .int .i64 0, .string ⟨#[]⟩, .slice none 0 0, .slice none 0 0, .slice none 0 0, .int .i64 0] 57)) 57 #[.string N, .int .i64 xa, .int .i64 xi, .string T, .slice pe le ke, .slice pi li ki, .slice pp lp kp, .int .i64 fi]
    rw [World.size_alloc] at this
    exact this
  have HC2 : Hid (CellsAt ((w.alloc (.cells #[.string ⟨#[]⟩, .int .i64 0, .int .i64 0, .string ⟨#[]⟩, .slice none 0 0, .slice none 0 0, .slice none 0 0, .int .i64 0] 57)).alloc (.cells #[.string N, .int .i64 xa, .int .i64 xi, .string T, .slice pe le ke, .slice pi li ki, .slice pp lp kp, .int .i64 fi] 57)) Bp 77 #[.int .i64 K.major, .int .i64 K.minor, .slice qe K.exps.length je, .slice (some ⟨g, 0, none⟩) l.length cap]) := hcell.below b2 hBw
  have HL2 : Hid (((w.alloc (.cells #[.string ⟨#[]⟩, .int .i64 0, .int .i64 0, .string ⟨#[]⟩, .slice none 0 0, .slice none 0 0, .slice none 0 0, .int .i64 0] 57)).alloc (.cells #[.string N, .int .i64 xa, .int .i64 xi, .string T, .slice pe le ke, .slice pi li ki, .slice pp lp kp, .int .i64 fi] 57)).ownsRow base 57 8 (.slice (some ⟨g, 0, none⟩) l.length cap) l.length (l.flatMap pvC)) := own_below hL b2
  have HD : Hid (∀ W : World, W.ownsRow base 57 8 (.slice (some ⟨g, 0, none⟩) l.length cap) l.length (l.flatMap pvC) → Calls Tryz.prog 100 #[.slice (some ⟨g, 0, none⟩) l.length cap, .int .i64 i, .int .i64 ((i : Int) + 1)] W fun e w' => e = .returned (.slice (some ⟨g, 0, none⟩) (l.length - 1) cap) ∧ w'.ownsRow base 57 8 (.slice (some ⟨g, 0, none⟩) (l.length - 1) cap) (l.length - 1) ((l.eraseIdx i).flatMap pvC) ∧ W.grownBy w' (some g)) := fun W h => delPlc_any g l.length cap i base l W h rfl hjl hone (by have := hl.1; omega)
  have HLN : Hid ((l.eraseIdx i).length = l.length - 1) := List.length_eraseIdx_of_lt hjl
  have p3 := CellsAt.cell (hcell.below b1 hBw) 3
  have pl := CellsAt.lt (hcell.below b1 hBw)
  simp at p3
  have hil : (i : Int) < (l.length : Int) := by omega
  have hi0 : ¬ ((i : Int) < 0) := by omega
  have hwi : IntKind.i64.wrap ((i : Int) + 1) = (i : Int) + 1 := by have := hl.1; rw [IntKind.wrap_i64]; omega
  clear b1 b2 c0 c1 c2 c3 c4 c5 c6 c7 hcell hE hL hP hone fl cl hx hcap hl
  go_enter Tryz.func43, Tryz.ntmps43
  go_wp2_with fail
  have HK2 : Hid (Keeps base w ((w.alloc (.cells #[.string ⟨#[]⟩, .int .i64 0, .int .i64 0, .string ⟨#[]⟩, .slice none 0 0, .slice none 0 0, .slice none 0 0, .int .i64 0] 57)).alloc (.cells #[.string N, .int .i64 xa, .int .i64 xi, .string T, .slice pe le ke, .slice pi li ki, .slice pp lp kp, .int .i64 fi] 57))) := Keeps.of HB2.out (by omega)
  have HE2 : Hid (((w.alloc (.cells #[.string ⟨#[]⟩, .int .i64 0, .int .i64 0, .string ⟨#[]⟩, .slice none 0 0, .slice none 0 0, .slice none 0 0, .int .i64 0] 57)).alloc (.cells #[.string N, .int .i64 xa, .int .i64 xi, .string T, .slice pe le ke, .slice pi li ki, .slice pp lp kp, .int .i64 fi] 57)).ownsRow base 129 2 (.slice qe K.exps.length je) K.exps.length (K.exps.flatMap expC)) := own_below HOE.out HB2.out
  have HP2 : Hid (∀ y ∈ l, OwnsPlc base ((w.alloc (.cells #[.string ⟨#[]⟩, .int .i64 0, .int .i64 0, .string ⟨#[]⟩, .slice none 0 0, .slice none 0 0, .slice none 0 0, .int .i64 0] 57)).alloc (.cells #[.string N, .int .i64 xa, .int .i64 xi, .string T, .slice pe le ke, .slice pi li ki, .slice pp lp kp, .int .i64 fi] 57)) y) := fun y hy => (HPB.out y hy).below HB2.out
  refine (HD.out _ HL2.out).mono ?_
  have hsz : w.heap.size + 1 < ((w.alloc (.cells #[.string ⟨#[]⟩, .int .i64 0, .int .i64 0, .string ⟨#[]⟩, .slice none 0 0, .slice none 0 0, .slice none 0 0, .int .i64 0] 57)).alloc (.cells #[.string N, .int .i64 xa, .int .i64 xi, .string T, .slice pe le ke, .slice pi li ki, .slice pp lp kp, .int .i64 fi] 57)).heap.size := HT2.out.lt
  clear HD HB2 HOE HPB HOL p3 pl d0 d1 d2 d3 d4 d5 d6 d7
  generalize ((w.alloc (.cells #[.string ⟨#[]⟩, .int .i64 0, .int .i64 0, .string ⟨#[]⟩, .slice none 0 0, .slice none 0 0, .slice none 0 0, .int .i64 0] 57)).alloc (.cells #[.string N, .int .i64 xa, .int .i64 xi, .string T, .slice pe le ke, .slice pi li ki, .slice pp lp kp, .int .i64 fi] 57)) = w2 at *
  rintro e w3 ⟨rfl, ho3, hg3⟩
  have HK3 : Hid (Keeps base w w3) := HK2.out.trans (Keeps.row HL2.out hg3 (by omega))
  have HC3 : Hid (CellsAt w3 Bp 77 #[.int .i64 K.major, .int .i64 K.minor, .slice qe K.exps.length je, .slice (some ⟨g, 0, none⟩) l.length cap]) := cells_beside HC2.out HL2.out (by decide) hg3
  have HR3 : Hid (CellsAt w3 w.heap.size 57 #[.string ⟨#[]⟩, .int .i64 0, .int .i64 0, .string ⟨#[]⟩, .slice none 0 0, .slice none 0 0, .slice none 0 0, .int .i64 0]) := HR2.out.kept hg3 (by intro e; have := Option.some.inj e; omega)
  have HT3 : Hid (CellsAt w3 (w.heap.size + 1) 57 #[.string N, .int .i64 xa, .int .i64 xi, .string T, .slice pe le ke, .slice pi li ki, .slice pp lp kp, .int .i64 fi]) := HT2.out.kept hg3 (by intro e; have := Option.some.inj e; omega)
  have HE3 : Hid (w3.ownsRow base 129 2 (.slice qe K.exps.length je) K.exps.length (K.exps.flatMap expC)) := own_beside HE2.out HL2.out (by decide) hg3
  have HP3 : Hid (∀ y ∈ l, OwnsPlc base w3 y) := fun y hy => (HP2.out y hy).beside HL2.out hg3
  have HL3 : Hid (w3.ownsRow base 57 8 (.slice (some ⟨g, 0, none⟩) (l.length - 1) cap) (l.length - 1) ((l.eraseIdx i).flatMap pvC)) := ho3
  have hsz3 : w.heap.size + 1 < w3.heap.size := Nat.lt_of_lt_of_le hsz hg3.size
  have p3 := CellsAt.cell HC3.out 3
  have f3 := CellsAt.frozen HC3.out 3
  have pl := CellsAt.lt HC3.out
  simp at p3
  clear HK2 HC2 HR2 HT2 HE2 HP2 HL2 hg3 ho3 hsz
  go_upto_region 3 with fail
  have hG4 := grown_set w3 Bp 3 (.slice (some ⟨g, 0, none⟩) (l.length - 1) cap)
  have HK4 : Hid (Keeps base w (w3.setCell ⟨Bp, 3, none⟩ (.slice (some ⟨g, 0, none⟩) (l.length - 1) cap))) := HK3.out.trans (Keeps.cell HC3.out (by decide) hG4 hb)
  have HC4 : Hid (CellsAt (w3.setCell ⟨Bp, 3, none⟩ (.slice (some ⟨g, 0, none⟩) (l.length - 1) cap)) Bp 77 #[.int .i64 K.major, .int .i64 K.minor, .slice qe K.exps.length je, .slice (some ⟨g, 0, none⟩) (l.length - 1) cap]) := CellsAt.set 3 (.slice (some ⟨g, 0, none⟩) (l.length - 1) cap) HC3.out
  have HR4 : Hid (CellsAt (w3.setCell ⟨Bp, 3, none⟩ (.slice (some ⟨g, 0, none⟩) (l.length - 1) cap)) w.heap.size 57 #[.string ⟨#[]⟩, .int .i64 0, .int .i64 0, .string ⟨#[]⟩, .slice none 0 0, .slice none 0 0, .slice none 0 0, .int .i64 0]) := HR3.out.kept hG4 (by intro e; have := Option.some.inj e; omega)
  have HT4 : Hid (CellsAt (w3.setCell ⟨Bp, 3, none⟩ (.slice (some ⟨g, 0, none⟩) (l.length - 1) cap)) (w.heap.size + 1) 57 #[.string N, .int .i64 xa, .int .i64 xi, .string T, .slice pe le ke, .slice pi li ki, .slice pp lp kp, .int .i64 fi]) := HT3.out.kept hG4 (by intro e; have := Option.some.inj e; omega)
  have HE4 : Hid ((w3.setCell ⟨Bp, 3, none⟩ (.slice (some ⟨g, 0, none⟩) (l.length - 1) cap)).ownsRow base 129 2 (.slice qe K.exps.length je) K.exps.length (K.exps.flatMap expC)) := HE3.out.kept hG4 (.inr (own_ne_cells HE3.out HC3.out (by decide)))
  have HP4 : Hid (∀ y ∈ l, OwnsPlc base (w3.setCell ⟨Bp, 3, none⟩ (.slice (some ⟨g, 0, none⟩) (l.length - 1) cap)) y) := fun y hy => (HP3.out y hy).beCell HC3.out (by decide) (by decide) (by decide) hG4
  have HL4 : Hid ((w3.setCell ⟨Bp, 3, none⟩ (.slice (some ⟨g, 0, none⟩) (l.length - 1) cap)).ownsRow base 57 8 (.slice (some ⟨g, 0, none⟩) (l.length - 1) cap) (l.length - 1) ((l.eraseIdx i).flatMap pvC)) := HL3.out.kept hG4 (.inr (own_ne_cells HL3.out HC3.out (by decide)))
  clear HK3 HC3 HR3 HT3 HE3 HP3 HL3 p3 f3 pl hG4
  generalize (w3.setCell ⟨Bp, 3, none⟩ (.slice (some ⟨g, 0, none⟩) (l.length - 1) cap)) = w4 at *
  have t0 := CellsAt.cell HT4.out 0
  have t1 := CellsAt.cell HT4.out 1
  have t2 := CellsAt.cell HT4.out 2
  have t3 := CellsAt.cell HT4.out 3
  have t4 := CellsAt.cell HT4.out 4
  have t5 := CellsAt.cell HT4.out 5
  have t6 := CellsAt.cell HT4.out 6
  have t7 := CellsAt.cell HT4.out 7
  have tl := CellsAt.lt HT4.out
  have r0 := CellsAt.cell HR4.out 0
  have s0 := CellsAt.frozen HR4.out 0
  have r1 := CellsAt.cell HR4.out 1
  have s1 := CellsAt.frozen HR4.out 1
  have r2 := CellsAt.cell HR4.out 2
  have s2 := CellsAt.frozen HR4.out 2
  have r3 := CellsAt.cell HR4.out 3
  have s3 := CellsAt.frozen HR4.out 3
  have r4 := CellsAt.cell HR4.out 4
  have s4 := CellsAt.frozen HR4.out 4
  have r5 := CellsAt.cell HR4.out 5
  have s5 := CellsAt.frozen HR4.out 5
  have r6 := CellsAt.cell HR4.out 6
  have s6 := CellsAt.frozen HR4.out 6
  have r7 := CellsAt.cell HR4.out 7
  have s7 := CellsAt.frozen HR4.out 7
  have rl := CellsAt.lt HR4.out
  simp at t0 t1 t2 t3 t4 t5 t6 t7 r0 r1 r2 r3 r4 r5 r6 r7
  go_wp2
  clear t0 t1 t2 t3 t4 t5 t6 t7 r0 r1 r2 r3 r4 r5 r6 r7 s0 s1 s2 s3 s4 s5 s6 s7 rl tl
  have hF := sets8 (W := w4) (B := w.heap.size) (t := 57) HR4.out (.string N) (.int .i64 xa) (.int .i64 xi) (.string T) (.slice pe le ke) (.slice pi li ki) (.slice pp lp kp) (.int .i64 fi)
  have hG := sets8_grown w4 w.heap.size (.string N) (.int .i64 xa) (.int .i64 xi) (.string T) (.slice pe le ke) (.slice pi li ki) (.slice pp lp kp) (.int .i64 fi)
  (try simp only [Exit.inBlock, Exit.then])
  refine bodyPost_ret (results_cell_row rfl _ _ _ _ _ _ _ rfl hF Tryz.underlying57 rfl (by kernel_rfl)) rfl ?_
  refine ⟨rfl, ⟨(.slice (some ⟨g, 0, none⟩) (l.length - 1) cap), HC4.out.kept hG (by intro e; have := Option.some.inj e; omega), HE4.out.kept hG (.inr (own_ne_cells HE4.out HR4.out (by decide))), ?_, fun y hy => (HP4.out y (List.mem_of_mem_eraseIdx hy)).beCell HR4.out (by decide) (by decide) (by decide) hG⟩, HK4.out.trans (Keeps.cell HR4.out (by decide) hG (by omega))⟩
  rw [HLN.out]
  exact HL4.out.kept hG (.inr (by intro e; have e : some g = some w.heap.size := e; have := Option.some.inj e; omega))

end Go.Proofs.YtlpnfbpgnfappaaGreat

/- The contract of the planner's put. Printed by genple.py. -/
namespace Go.Proofs.YtlpnfbpgnfappaaGreat
open Go.RowKit Go.PlainAid Go.Lib

set_option maxRecDepth 100000

set_option maxHeartbeats 16000000 in
theorem plPut_any (base Bp : Nat) (K : Ker) (ve vl : Value) (l : List PV) (M : Mod) (vm : Value) (f : Int) (w : World) (hp : PackAt base Bp w 77 K ve vl l) (hl : Lens l) (hm : IsMod w.heap.size w vm M) (hml : M.exps.length ≤ 255 ∧ M.imps.length ≤ 255 ∧ M.pats.length ≤ 255) (hb : base ≤ Bp) :
    Calls Tryz.prog 40 #[.pointer (some ⟨Bp, 0, none⟩), vm, .int .i64 f] w fun e w' => e = .returned (.tuple #[]) ∧ (∃ vl' l', l'.map PV.plc = putAt (l.map PV.plc) ⟨M, f⟩ ∧ l'.length = l.length + 1 ∧ (∀ z ∈ l', z ∈ l ∨ z.mod = M) ∧ PackAt base Bp w' 77 K ve vl' l') ∧ Keeps base w w' := by
  obtain ⟨hcell, hE, hL, hP⟩ := hp
  have hrow : IsPlcs w.heap.size w vl l := PackAt.rows ⟨hcell, hE, hL, hP⟩ hl
  have hBw : Bp < w.heap.size := hcell.lt
  have hone : ∀ u ∈ l.flatMap pvC, u.oneCell' = true := pvs_one fun x hx => plc_rows hP hl.2 x hx
  have hPB : ∀ k, vl.ownBlock = some k → k < w.heap.size := fun k hk => (hL.lt k hk).2
  have HIX : Hid (∀ W B, Below w.heap.size w W → B < W.heap.size → W.cell? ⟨B, 0, none⟩ = some (.int .i64 f) → Calls Tryz.prog 79 #[vl, .func (.func 95) #[] #[.pointer (some ⟨B, 0, none⟩)]] W fun e w' => e = .returned (.int .i64 (ixFrom (fun x : PV => decide (f < x.first)) 0 l)) ∧ Below W.heap.size W w') := by
    intro W B hb hlt hB
    exact ixPlc_any l vl 95 (.pointer (some ⟨B, 0, none⟩)) (fun w x => enters_of Tryz.func95 (by kernel_rfl) rfl _ w) _ W ((hrow.1.below hb).more hb.size) (fun x hx W' hb' => plPut1_any B f x W' (Nat.lt_of_lt_of_le hlt hb'.size) ((hb'.cell (p := ⟨B, 0, none⟩) hlt).trans hB) ((((((hrow.2 x hx).below hb).more hb.size)).below hb').more hb'.size))
  have hkey := put_cases (l.map PV.plc) ⟨M, f⟩
  rw [ix_map] at hkey
  have hkey : ∃ j : Nat, j ≤ l.length ∧ ((ixFrom (fun x : PV => decide (f < x.first)) 0 l = -1 ∧ j = l.length) ∨ ixFrom (fun x : PV => decide (f < x.first)) 0 l = (j : Int)) ∧ putAt (l.map PV.plc) ⟨M, f⟩ = putI (l.map PV.plc) j ⟨M, f⟩ := by
    rcases hkey with ⟨h1, h2⟩ | ⟨j, h1, h2, h3⟩
    · exact ⟨l.length, Nat.le_refl _, .inl ⟨h1, rfl⟩, by rw [List.length_map] at h2; exact h2⟩
    · exact ⟨j, by rw [List.length_map] at h1; omega, .inr h2, h3⟩
  generalize ixFrom (fun x : PV => decide (f < x.first)) 0 l = ix at *
  obtain ⟨j, hj, hjx, hput⟩ := hkey
  obtain ⟨vxe, vxi, vxp, rfl, hxE, hxI, hxP⟩ := hm
  have HAT : Hid (PlcAt w.heap.size w ⟨M, vxe, vxi, vxp, f⟩) := ⟨hxE, hxI, hxP⟩
  have HCP : Hid (∀ W, Below w.heap.size w W → Calls Tryz.prog 81 #[(⟨M, vxe, vxi, vxp, f⟩ : PV).val] W fun e w' => (∃ y : PV, e = .returned y.val ∧ y.plc = ⟨M, f⟩ ∧ OwnsPlc W.heap.size w' y) ∧ Below W.heap.size W w') := fun W hb => copyPlc_any ⟨M, vxe, vxi, vxp, f⟩ W ((HAT.out.below hb).more hb.size) hml.1 hml.2.1 hml.2.2
  obtain ⟨pe, ke, e4, -⟩ := hxE
  obtain ⟨pi, ki, e5, -⟩ := hxI
  obtain ⟨pp, kp, e6, -⟩ := hxP
  subst e4 e5 e6
  obtain ⟨va, vc, rfl⟩ := own_form hL
  obtain ⟨qe, je, rfl⟩ := own_form hE
  have HML : Hid (M.exps.length ≤ 255 ∧ M.imps.length ≤ 255 ∧ M.pats.length ≤ 255) := hml
  have HPT : Hid (putAt (l.map PV.plc) ⟨M, f⟩ = putI (l.map PV.plc) j ⟨M, f⟩) := hput
  have HCM : Hid (w.ownsRow base 57 8 (.slice va l.length vc) l.length (l.flatMap pvC)) := hL
  have HEM : Hid (w.ownsRow base 129 2 (.slice qe K.exps.length je) K.exps.length (K.exps.flatMap expC)) := hE
  have HPM : Hid (∀ y ∈ l, OwnsPlc base w y) := hP
  have hl250 := hl.1
  dsimp only [PV.val] at HCP ⊢
  obtain ⟨N, xa, xi, T, es, is, ps⟩ := M
  dsimp only at *
  generalize hle : es.length = le at *
  generalize hli : is.length = li at *
  generalize hlp : ps.length = lp at *
  have b1 : Below w.heap.size w (w.alloc (.cells #[.string N, .int .i64 xa, .int .i64 xi, .string T, .slice pe le ke, .slice pi li ki, .slice pp lp kp] 31)) := (Below.refl _ _).alloc (Nat.le_refl _) _
  have b2 : Below w.heap.size w ((w.alloc (.cells #[.string N, .int .i64 xa, .int .i64 xi, .string T, .slice pe le ke, .slice pi li ki, .slice pp lp kp] 31)).alloc (.cells #[.int .i64 f] 3)) := b1.alloc b1.size _
  have HB2 : Hid (Below w.heap.size w ((w.alloc (.cells #[.string N, .int .i64 xa, .int .i64 xi, .string T, .slice pe le ke, .slice pi li ki, .slice pp lp kp] 31)).alloc (.cells #[.int .i64 f] 3))) := b2
  have HM2 : Hid (CellsAt ((w.alloc (.cells #[.string N, .int .i64 xa, .int .i64 xi, .string T, .slice pe le ke, .slice pi li ki, .slice pp lp kp] 31)).alloc (.cells #[.int .i64 f] 3)) w.heap.size 31 #[.string N, .int .i64 xa, .int .i64 xi, .string T, .slice pe le ke, .slice pi li ki, .slice pp lp kp]) := (CellsAt.new w 31 #[.string N, .int .i64 xa, .int .i64 xi, .string T, .slice pe le ke, .slice pi li ki, .slice pp lp kp]).kept (World.grownBy_alloc _ _ none) (by simp)
  have HF2 : Hid (CellsAt ((w.alloc (.cells #[.string N, .int .i64 xa, .int .i64 xi, .string T, .slice pe le ke, .slice pi li ki, .slice pp lp kp] 31)).alloc (.cells #[.int .i64 f] 3)) (w.heap.size + 1) 3 #[.int .i64 f]) := by
    have := CellsAt.new (w.alloc (.cells #[.string N, .int .i64 xa, .int .i64 xi, .string T, .slice pe le ke, .slice pi li ki, .slice pp lp kp] 31)) 3 #[.int .i64 f]
    rw [World.size_alloc] at this
    exact this
  have HC2 : Hid (CellsAt ((w.alloc (.cells #[.string N, .int .i64 xa, .int .i64 xi, .string T, .slice pe le ke, .slice pi li ki, .slice pp lp kp] 31)).alloc (.cells #[.int .i64 f] 3)) Bp 77 #[.int .i64 K.major, .int .i64 K.minor, .slice qe K.exps.length je, .slice va l.length vc]) := hcell.below b2 hBw
  have p3 := CellsAt.cell HC2.out 3
  have pl := CellsAt.lt HC2.out
  simp at p3
  have hsz : w.heap.size + 1 < ((w.alloc (.cells #[.string N, .int .i64 xa, .int .i64 xi, .string T, .slice pe le ke, .slice pi li ki, .slice pp lp kp] 31)).alloc (.cells #[.int .i64 f] 3)).heap.size := HF2.out.lt
  clear b1 b2 hcell hE hL hP hrow hl hml hput
  go_enter Tryz.func40, Tryz.ntmps40
  go_wp2_with fail
  refine (HIX.out _ _ HB2.out HF2.out.lt (HF2.out.cell 0)).mono ?_
  clear p3 pl
  generalize ((w.alloc (.cells #[.string N, .int .i64 xa, .int .i64 xi, .string T, .slice pe le ke, .slice pi li ki, .slice pp lp kp] 31)).alloc (.cells #[.int .i64 f] 3)) = w2 at *
  rintro e w3 ⟨rfl, b3⟩
  have HB3 : Hid (Below w.heap.size w w3) := HB2.out.trans (b3.mono HB2.out.size)
  have HM3 : Hid (CellsAt w3 w.heap.size 31 #[.string N, .int .i64 xa, .int .i64 xi, .string T, .slice pe le ke, .slice pi li ki, .slice pp lp kp]) := HM2.out.below b3 HM2.out.lt
  have HF3 : Hid (CellsAt w3 (w.heap.size + 1) 3 #[.int .i64 f]) := HF2.out.below b3 HF2.out.lt
  have HC3 : Hid (CellsAt w3 Bp 77 #[.int .i64 K.major, .int .i64 K.minor, .slice qe K.exps.length je, .slice va l.length vc]) := HC2.out.below b3 HC2.out.lt
  have hsz3 : w.heap.size + 1 < w3.heap.size := HF3.out.lt
  clear b3 HIX HB2 HM2 HF2 HC2 hsz
  rcases hjx with ⟨rfl, rfl⟩ | rfl
  · have p3 := CellsAt.cell HC3.out 3
    have pl := CellsAt.lt HC3.out
    simp at p3
    go_upto_region 4 with fail
    clear p3 pl
    refine wp_region_noPanic ?_
    refine wp_region_L (S := fun w' => CellsAt w' Bp 77 #[.int .i64 K.major, .int .i64 K.minor, .slice qe K.exps.length je, .slice va l.length vc] ∧ CellsAt w' w.heap.size 31 #[.string N, .int .i64 xa, .int .i64 xi, .string T, .slice pe le ke, .slice pi li ki, .slice pp lp kp] ∧ CellsAt w' (w.heap.size + 1) 3 #[.int .i64 f]) (x := 16) (by kernel_rfl) ?_
    have HB4 : Hid (Below w.heap.size w w3.drew) := HB3.out.drew
    have HC4 : Hid (CellsAt w3.drew Bp 77 #[.int .i64 K.major, .int .i64 K.minor, .slice qe K.exps.length je, .slice va l.length vc]) := (HC3.out : CellsAt w3 _ _ _)
    have HM4 : Hid (CellsAt w3.drew w.heap.size 31 #[.string N, .int .i64 xa, .int .i64 xi, .string T, .slice pe le ke, .slice pi li ki, .slice pp lp kp]) := (HM3.out : CellsAt w3 _ _ _)
    have HF4 : Hid (CellsAt w3.drew (w.heap.size + 1) 3 #[.int .i64 f]) := (HF3.out : CellsAt w3 _ _ _)
    have hsz4 : w.heap.size + 1 < w3.drew.heap.size := HF4.out.lt
    clear HB3 HC3 HM3 HF3 hsz3
    generalize w3.drew = w4 at *
    have hS0 : CellsAt w4 Bp 77 #[.int .i64 K.major, .int .i64 K.minor, .slice qe K.exps.length je, .slice va l.length vc] ∧ CellsAt w4 w.heap.size 31 #[.string N, .int .i64 xa, .int .i64 xi, .string T, .slice pe le ke, .slice pi li ki, .slice pp lp kp] ∧ CellsAt w4 (w.heap.size + 1) 3 #[.int .i64 f] := ⟨HC4.out, HM4.out, HF4.out⟩
    refine wpL_take 0 22 (.pointer (some ⟨Bp, 0, none⟩)) rfl (by kernel_rfl) (fun _ _ _ h => h) hS0 rfl rfl (fun w' hSw => by clear hSw; go_simp) ?_
    simp only [List.setIfInBounds_toArray, List.set_cons_zero, List.set_cons_succ]
    refine wpL_take 1 23 (.pointer (some ⟨Bp, 0, none⟩)) rfl (by kernel_rfl) (fun _ _ _ h => h) hS0 rfl rfl (fun w' hSw => by clear hSw; go_simp) ?_
    simp only [List.setIfInBounds_toArray, List.set_cons_zero, List.set_cons_succ]
    refine wpL_take 2 24 (.pointer (some ⟨Bp, 0, none⟩)) rfl (by kernel_rfl) (fun _ _ _ h => h) hS0 rfl rfl (fun w' hSw => by clear hSw; go_simp) ?_
    simp only [List.setIfInBounds_toArray, List.set_cons_zero, List.set_cons_succ]
    refine wpL_take 3 25 (.pointer (some ⟨Bp, 0, none⟩)) rfl (by kernel_rfl) (fun _ _ _ h => h) hS0 rfl rfl (fun w' hSw => by clear hSw; go_simp) ?_
    simp only [List.setIfInBounds_toArray, List.set_cons_zero, List.set_cons_succ]
    refine wpL_take 4 26 (.pointer (some ⟨Bp, 3, none⟩)) rfl (by kernel_rfl) (fun _ _ _ h => h) hS0 rfl rfl (fun w' hSw => by clear hSw; go_simp) ?_
    simp only [List.setIfInBounds_toArray, List.set_cons_zero, List.set_cons_succ]
    refine wpL_take 5 27 (.slice va l.length vc) rfl (by kernel_rfl) (fun _ _ _ h => h) hS0 rfl rfl (fun w' hSw => by have q := CellsAt.cell hSw.1 3; simp at q; clear hSw; go_simp) ?_
    simp only [List.setIfInBounds_toArray, List.set_cons_zero, List.set_cons_succ]
    refine wpL_take 6 28 (.int .i64 (l.length : Int)) rfl (by kernel_rfl) (fun _ _ _ h => h) hS0 rfl rfl (fun w' hSw => by clear hSw; go_simp) ?_
    simp only [List.setIfInBounds_toArray, List.set_cons_zero, List.set_cons_succ]
    refine wpL_take 7 29 (.agg #[.string N, .int .i64 xa, .int .i64 xi, .string T, .slice pe le ke, .slice pi li ki, .slice pp lp kp]) rfl (by kernel_rfl) (fun _ _ _ h => h) hS0 rfl rfl (fun w' hSw => by have q0 := CellsAt.cell hSw.2.1 0; have q1 := CellsAt.cell hSw.2.1 1; have q2 := CellsAt.cell hSw.2.1 2; have q3 := CellsAt.cell hSw.2.1 3; have q4 := CellsAt.cell hSw.2.1 4; have q5 := CellsAt.cell hSw.2.1 5; have q6 := CellsAt.cell hSw.2.1 6; simp at q0 q1 q2 q3 q4 q5 q6; clear hSw; go_simp) ?_
    simp only [List.setIfInBounds_toArray, List.set_cons_zero, List.set_cons_succ]
    refine wpL_take 8 30 (.int .i64 f) rfl (by kernel_rfl) (fun _ _ _ h => h) hS0 rfl rfl (fun w' hSw => by have q := CellsAt.cell hSw.2.2 0; simp at q; clear hSw; go_simp) ?_
    simp only [List.setIfInBounds_toArray, List.set_cons_zero, List.set_cons_succ]
    refine wpL_take 9 31 (.agg #[.string N, .int .i64 xa, .int .i64 xi, .string T, .slice pe le ke, .slice pi li ki, .slice pp lp kp, .int .i64 f]) rfl (by kernel_rfl) (fun _ _ _ h => h) hS0 rfl rfl (fun w' hSw => by clear hSw; go_simp) ?_
    simp only [List.setIfInBounds_toArray, List.set_cons_zero, List.set_cons_succ]
    clear hS0
    refine wpL_step (i := 10) rfl (by kernel_rfl) (fun Kq hK => ?_)
    go_simp
    refine (HCP.out _ HB4.out).mono ?_
    rintro e w5 ⟨⟨y, rfl, hy, hO⟩, b5⟩
    have HB5 : Hid (Below w.heap.size w w5) := HB4.out.trans (b5.mono HB4.out.size)
    have HC5 : Hid (CellsAt w5 Bp 77 #[.int .i64 K.major, .int .i64 K.minor, .slice qe K.exps.length je, .slice va l.length vc]) := HC4.out.below b5 HC4.out.lt
    have HM5 : Hid (CellsAt w5 w.heap.size 31 #[.string N, .int .i64 xa, .int .i64 xi, .string T, .slice pe le ke, .slice pi li ki, .slice pp lp kp]) := HM4.out.below b5 HM4.out.lt
    have HF5 : Hid (CellsAt w5 (w.heap.size + 1) 3 #[.int .i64 f]) := HF4.out.below b5 HF4.out.lt
    have hsz5 : w.heap.size + 1 < w5.heap.size := HF5.out.lt
    have HO5 : Hid (OwnsPlc base w5 y) := hO.lower (by have := HB4.out.size; omega)
    have HY5 : Hid (y.plc = ⟨⟨N, xa, xi, T, es, is, ps⟩, f⟩) := hy
    obtain ⟨o1, o2, o3⟩ := hO
    obtain ⟨ya1, yc1, e1⟩ := own_form o1
    obtain ⟨ya2, yc2, e2⟩ := own_form o2
    obtain ⟨ya3, yc3, e3⟩ := own_form o3
    generalize y.mod.exps.length = yn1 at *
    generalize y.mod.imps.length = yn2 at *
    generalize y.mod.pats.length = yn3 at *
    have HYC : Hid (pvC y = [.string y.mod.name, .int .i64 y.mod.major, .int .i64 y.mod.minor, .string y.mod.text, .slice ya1 yn1 yc1, .slice ya2 yn2 yc2, .slice ya3 yn3 yc3, .int .i64 y.first]) := by
      show [_, _, _, _, y.ve, y.vi, y.vp, _] = _
      rw [e1, e2, e3]
    rw [e1, e2, e3]
    clear e1 e2 e3 o1 o2 o3 hy b5 HCP HB4 HC4 HM4 HF4 hsz4
    go_simp
    refine hK.out _ _ ⟨HC5.out, HM5.out, HF5.out⟩ (fun _ => ?_)
    clear hK Kq
    generalize hyN : y.mod.name = yN at *
    generalize hyT : y.mod.text = yT at *
    generalize hya : y.mod.major = yma at *
    generalize hyi : y.mod.minor = ymi at *
    generalize hyf : y.first = yf at *
    clear hyN hyT hya hyi hyf
    refine wpL_step (i := 11) rfl (by kernel_rfl) (fun Kq hK => ?_)
    go_simp
    have b6 : Below w5.heap.size w5 (w5.alloc (.cells #[.string yN, .int .i64 yma, .int .i64 ymi, .string yT, .slice ya1 yn1 yc1, .slice ya2 yn2 yc2, .slice ya3 yn3 yc3, .int .i64 yf] 57)) := (Below.refl _ _).alloc (Nat.le_refl _) _
    have HB6 : Hid (Below w.heap.size w (w5.alloc (.cells #[.string yN, .int .i64 yma, .int .i64 ymi, .string yT, .slice ya1 yn1 yc1, .slice ya2 yn2 yc2, .slice ya3 yn3 yc3, .int .i64 yf] 57))) := HB5.out.trans (b6.mono HB5.out.size)
    have HC6 : Hid (CellsAt (w5.alloc (.cells #[.string yN, .int .i64 yma, .int .i64 ymi, .string yT, .slice ya1 yn1 yc1, .slice ya2 yn2 yc2, .slice ya3 yn3 yc3, .int .i64 yf] 57)) Bp 77 #[.int .i64 K.major, .int .i64 K.minor, .slice qe K.exps.length je, .slice va l.length vc]) := HC5.out.below b6 HC5.out.lt
    have HM6 : Hid (CellsAt (w5.alloc (.cells #[.string yN, .int .i64 yma, .int .i64 ymi, .string yT, .slice ya1 yn1 yc1, .slice ya2 yn2 yc2, .slice ya3 yn3 yc3, .int .i64 yf] 57)) w.heap.size 31 #[.string N, .int .i64 xa, .int .i64 xi, .string T, .slice pe le ke, .slice pi li ki, .slice pp lp kp]) := HM5.out.below b6 HM5.out.lt
    have HF6 : Hid (CellsAt (w5.alloc (.cells #[.string yN, .int .i64 yma, .int .i64 ymi, .string yT, .slice ya1 yn1 yc1, .slice ya2 yn2 yc2, .slice ya3 yn3 yc3, .int .i64 yf] 57)) (w.heap.size + 1) 3 #[.int .i64 f]) := HF5.out.below b6 HF5.out.lt
    have HO6 : Hid (OwnsPlc base (w5.alloc (.cells #[.string yN, .int .i64 yma, .int .i64 ymi, .string yT, .slice ya1 yn1 yc1, .slice ya2 yn2 yc2, .slice ya3 yn3 yc3, .int .i64 yf] 57)) y) := HO5.out.below b6
    have HV6 : Hid (CellsAt (w5.alloc (.cells #[.string yN, .int .i64 yma, .int .i64 ymi, .string yT, .slice ya1 yn1 yc1, .slice ya2 yn2 yc2, .slice ya3 yn3 yc3, .int .i64 yf] 57)) w5.heap.size 57 (pvC y).toArray) := by
      rw [HYC.out]
      exact CellsAt.new _ _ _
    refine hK.out _ _ ⟨HC6.out, HM6.out, HF6.out⟩ (fun _ => ?_)
    clear hK Kq b6 HB5 HC5 HM5 HF5 HO5
    have hl6 : w5.heap.size < (w5.alloc (.cells #[.string yN, .int .i64 yma, .int .i64 ymi, .string yT, .slice ya1 yn1 yc1, .slice ya2 yn2 yc2, .slice ya3 yn3 yc3, .int .i64 yf] 57)).heap.size := HV6.out.lt
    have h56 : w.heap.size + 1 < w5.heap.size := hsz5
    clear hsz5
    generalize (w5.alloc (.cells #[.string yN, .int .i64 yma, .int .i64 ymi, .string yT, .slice ya1 yn1 yc1, .slice ya2 yn2 yc2, .slice ya3 yn3 yc3, .int .i64 yf] 57)) = w6 at *
    generalize w5.heap.size = B5 at *
    refine wpL_step (i := 12) rfl (by kernel_rfl) (fun Kq hK => ?_)
    go_simp
    have HL6 : Hid (w6.ownsRow base 57 8 (.slice va l.length vc) l.length (l.flatMap pvC)) := own_below HCM.out HB6.out
    have hyo : ∀ u ∈ pvC y, u.oneCell' = true := by
      rw [HYC.out]
      intro u hu
      simp only [List.mem_cons, List.not_mem_nil, or_false] at hu
      rcases hu with rfl | rfl | rfl | rfl | rfl | rfl | rfl | rfl <;> rfl
    refine (insPlc_any (.slice va l.length vc) l.length l.length base B5 l y w6 HL6.out rfl (by omega) hone hyo (by omega) HV6.out (by intro e; have := hPB _ e; omega) (by omega)).mono ?_
    rintro e w7 ⟨v7, rfl, ho7, hg7⟩
    have HK7 : Hid (Keeps base w w7) := (Keeps.of HB6.out (by omega)).trans (Keeps.row HL6.out hg7 (by omega))
    have HC7 : Hid (CellsAt w7 Bp 77 #[.int .i64 K.major, .int .i64 K.minor, .slice qe K.exps.length je, .slice va l.length vc]) := cells_beside HC6.out HL6.out (by decide) hg7
    have HM7 : Hid (CellsAt w7 w.heap.size 31 #[.string N, .int .i64 xa, .int .i64 xi, .string T, .slice pe le ke, .slice pi li ki, .slice pp lp kp]) := cells_beside HM6.out HL6.out (by decide) hg7
    have HF7 : Hid (CellsAt w7 (w.heap.size + 1) 3 #[.int .i64 f]) := cells_beside HF6.out HL6.out (by decide) hg7
    have HO7 : Hid (OwnsPlc base w7 y) := HO6.out.beside HL6.out hg7
    have HP7 : Hid (∀ z ∈ l, OwnsPlc base w7 z) := fun z hz => ((HPM.out z hz).below HB6.out).beside HL6.out hg7
    have HE7 : Hid (w7.ownsRow base 129 2 (.slice qe K.exps.length je) K.exps.length (K.exps.flatMap expC)) := own_beside (own_below HEM.out HB6.out) HL6.out (by decide) hg7
    have HL7 : Hid (w7.ownsRow base 57 8 v7 (l.length + 1) ((putI l l.length y).flatMap pvC)) := ho7
    obtain ⟨na, nc, rfl⟩ := own_form ho7
    clear hyo hg7 ho7 HB6 HC6 HM6 HF6 HO6 HV6 HL6
    go_simp
    refine hK.out _ _ ⟨HC7.out, HM7.out, HF7.out⟩ (fun hS7 => ?_)
    clear hK Kq
    refine wpL_take 13 35 (.pointer (some ⟨Bp, 0, none⟩)) rfl (by kernel_rfl) (fun _ _ _ h => h) hS7 rfl rfl (fun w' hSw => by clear hSw; go_simp) ?_
    simp only [List.setIfInBounds_toArray, List.set_cons_zero, List.set_cons_succ]
    refine wpL_take 14 36 (.pointer (some ⟨Bp, 0, none⟩)) rfl (by kernel_rfl) (fun _ _ _ h => h) hS7 rfl rfl (fun w' hSw => by clear hSw; go_simp) ?_
    simp only [List.setIfInBounds_toArray, List.set_cons_zero, List.set_cons_succ]
    refine wpL_take 15 37 (.pointer (some ⟨Bp, 3, none⟩)) rfl (by kernel_rfl) (fun _ _ _ h => h) hS7 rfl rfl (fun w' hSw => by clear hSw; go_simp) ?_
    simp only [List.setIfInBounds_toArray, List.set_cons_zero, List.set_cons_succ]
    have p3 := CellsAt.cell HC7.out 3
    have f3 := CellsAt.frozen HC7.out 3
    have pl := CellsAt.lt HC7.out
    simp at p3
    clear hS7
    refine wpL_last (x := 16) rfl (by kernel_rfl) (by kernel_rfl) (fun Kq hK => ?_)
    go_simp
    refine hK.out _ _ ?_
    refine NoPanic.normal ?_
    clear hK Kq p3 f3 pl
    have hG8 := grown_set w7 Bp 3 (.slice na (l.length + 1) nc)
    have HC8 := CellsAt.set 3 (.slice na (l.length + 1) nc) HC7.out
    simp only [List.setIfInBounds_toArray, List.set_cons_zero, List.set_cons_succ] at HC8
    have HLL : (putI l l.length y).length = l.length + 1 := by
      unfold putI
      rw [List.length_append, List.length_take, List.length_cons, List.length_drop]
      omega
    go_end0
    refine ⟨rfl, ⟨.slice na (l.length + 1) nc, putI l l.length y, ?_, ?_, ?_, HC8, HE7.out.kept hG8 (.inr (own_ne_cells HE7.out HC7.out (by decide))), ?_, ?_⟩, HK7.out.trans (Keeps.cell HC7.out (by decide) hG8 hb)⟩
    · rw [putI_map, HY5.out]
      exact HPT.out.symm
    · exact HLL
    · intro z hz
      unfold putI at hz
      rcases List.mem_append.1 hz with hz | hz
      · exact .inl (List.mem_of_mem_take hz)
      · rcases List.mem_cons.1 hz with rfl | hz
        · exact .inr (congrArg Plc.mod HY5.out)
        · exact .inl (List.mem_of_mem_drop hz)
    · rw [HLL]
      exact HL7.out.kept hG8 (.inr (own_ne_cells HL7.out HC7.out (by decide)))
    · intro z hz
      unfold putI at hz
      rcases List.mem_append.1 hz with hz | hz
      · exact (HP7.out z (List.mem_of_mem_take hz)).beCell HC7.out (by decide) (by decide) (by decide) hG8
      · rcases List.mem_cons.1 hz with rfl | hz
        · exact HO7.out.beCell HC7.out (by decide) (by decide) (by decide) hG8
        · exact (HP7.out z (List.mem_of_mem_drop hz)).beCell HC7.out (by decide) (by decide) (by decide) hG8
  · have hjn : ¬ ((j : Int) < 0) := by omega
    go_upto_region 4 with fail
    refine wp_region_noPanic ?_
    refine wp_region_L (S := fun w' => CellsAt w' Bp 77 #[.int .i64 K.major, .int .i64 K.minor, .slice qe K.exps.length je, .slice va l.length vc] ∧ CellsAt w' w.heap.size 31 #[.string N, .int .i64 xa, .int .i64 xi, .string T, .slice pe le ke, .slice pi li ki, .slice pp lp kp] ∧ CellsAt w' (w.heap.size + 1) 3 #[.int .i64 f]) (x := 16) (by kernel_rfl) ?_
    have HB4 : Hid (Below w.heap.size w w3.drew) := HB3.out.drew
    have HC4 : Hid (CellsAt w3.drew Bp 77 #[.int .i64 K.major, .int .i64 K.minor, .slice qe K.exps.length je, .slice va l.length vc]) := (HC3.out : CellsAt w3 _ _ _)
    have HM4 : Hid (CellsAt w3.drew w.heap.size 31 #[.string N, .int .i64 xa, .int .i64 xi, .string T, .slice pe le ke, .slice pi li ki, .slice pp lp kp]) := (HM3.out : CellsAt w3 _ _ _)
    have HF4 : Hid (CellsAt w3.drew (w.heap.size + 1) 3 #[.int .i64 f]) := (HF3.out : CellsAt w3 _ _ _)
    have hsz4 : w.heap.size + 1 < w3.drew.heap.size := HF4.out.lt
    clear HB3 HC3 HM3 HF3 hsz3
    generalize w3.drew = w4 at *
    have hS0 : CellsAt w4 Bp 77 #[.int .i64 K.major, .int .i64 K.minor, .slice qe K.exps.length je, .slice va l.length vc] ∧ CellsAt w4 w.heap.size 31 #[.string N, .int .i64 xa, .int .i64 xi, .string T, .slice pe le ke, .slice pi li ki, .slice pp lp kp] ∧ CellsAt w4 (w.heap.size + 1) 3 #[.int .i64 f] := ⟨HC4.out, HM4.out, HF4.out⟩
    refine wpL_take 0 22 (.pointer (some ⟨Bp, 0, none⟩)) rfl (by kernel_rfl) (fun _ _ _ h => h) hS0 rfl rfl (fun w' hSw => by clear hSw; go_simp) ?_
    simp only [List.setIfInBounds_toArray, List.set_cons_zero, List.set_cons_succ]
    refine wpL_take 1 23 (.pointer (some ⟨Bp, 0, none⟩)) rfl (by kernel_rfl) (fun _ _ _ h => h) hS0 rfl rfl (fun w' hSw => by clear hSw; go_simp) ?_
    simp only [List.setIfInBounds_toArray, List.set_cons_zero, List.set_cons_succ]
    refine wpL_take 2 24 (.pointer (some ⟨Bp, 0, none⟩)) rfl (by kernel_rfl) (fun _ _ _ h => h) hS0 rfl rfl (fun w' hSw => by clear hSw; go_simp) ?_
    simp only [List.setIfInBounds_toArray, List.set_cons_zero, List.set_cons_succ]
    refine wpL_take 3 25 (.pointer (some ⟨Bp, 0, none⟩)) rfl (by kernel_rfl) (fun _ _ _ h => h) hS0 rfl rfl (fun w' hSw => by clear hSw; go_simp) ?_
    simp only [List.setIfInBounds_toArray, List.set_cons_zero, List.set_cons_succ]
    refine wpL_take 4 26 (.pointer (some ⟨Bp, 3, none⟩)) rfl (by kernel_rfl) (fun _ _ _ h => h) hS0 rfl rfl (fun w' hSw => by clear hSw; go_simp) ?_
    simp only [List.setIfInBounds_toArray, List.set_cons_zero, List.set_cons_succ]
    refine wpL_take 5 27 (.slice va l.length vc) rfl (by kernel_rfl) (fun _ _ _ h => h) hS0 rfl rfl (fun w' hSw => by have q := CellsAt.cell hSw.1 3; simp at q; clear hSw; go_simp) ?_
    simp only [List.setIfInBounds_toArray, List.set_cons_zero, List.set_cons_succ]
    refine wpL_take 6 28 (.int .i64 (j : Int)) rfl (by kernel_rfl) (fun _ _ _ h => h) hS0 rfl rfl (fun w' hSw => by clear hSw; go_simp) ?_
    simp only [List.setIfInBounds_toArray, List.set_cons_zero, List.set_cons_succ]
    refine wpL_take 7 29 (.agg #[.string N, .int .i64 xa, .int .i64 xi, .string T, .slice pe le ke, .slice pi li ki, .slice pp lp kp]) rfl (by kernel_rfl) (fun _ _ _ h => h) hS0 rfl rfl (fun w' hSw => by have q0 := CellsAt.cell hSw.2.1 0; have q1 := CellsAt.cell hSw.2.1 1; have q2 := CellsAt.cell hSw.2.1 2; have q3 := CellsAt.cell hSw.2.1 3; have q4 := CellsAt.cell hSw.2.1 4; have q5 := CellsAt.cell hSw.2.1 5; have q6 := CellsAt.cell hSw.2.1 6; simp at q0 q1 q2 q3 q4 q5 q6; clear hSw; go_simp) ?_
    simp only [List.setIfInBounds_toArray, List.set_cons_zero, List.set_cons_succ]
    refine wpL_take 8 30 (.int .i64 f) rfl (by kernel_rfl) (fun _ _ _ h => h) hS0 rfl rfl (fun w' hSw => by have q := CellsAt.cell hSw.2.2 0; simp at q; clear hSw; go_simp) ?_
    simp only [List.setIfInBounds_toArray, List.set_cons_zero, List.set_cons_succ]
    refine wpL_take 9 31 (.agg #[.string N, .int .i64 xa, .int .i64 xi, .string T, .slice pe le ke, .slice pi li ki, .slice pp lp kp, .int .i64 f]) rfl (by kernel_rfl) (fun _ _ _ h => h) hS0 rfl rfl (fun w' hSw => by clear hSw; go_simp) ?_
    simp only [List.setIfInBounds_toArray, List.set_cons_zero, List.set_cons_succ]
    clear hS0
    refine wpL_step (i := 10) rfl (by kernel_rfl) (fun Kq hK => ?_)
    go_simp
    refine (HCP.out _ HB4.out).mono ?_
    rintro e w5 ⟨⟨y, rfl, hy, hO⟩, b5⟩
    have HB5 : Hid (Below w.heap.size w w5) := HB4.out.trans (b5.mono HB4.out.size)
    have HC5 : Hid (CellsAt w5 Bp 77 #[.int .i64 K.major, .int .i64 K.minor, .slice qe K.exps.length je, .slice va l.length vc]) := HC4.out.below b5 HC4.out.lt
    have HM5 : Hid (CellsAt w5 w.heap.size 31 #[.string N, .int .i64 xa, .int .i64 xi, .string T, .slice pe le ke, .slice pi li ki, .slice pp lp kp]) := HM4.out.below b5 HM4.out.lt
    have HF5 : Hid (CellsAt w5 (w.heap.size + 1) 3 #[.int .i64 f]) := HF4.out.below b5 HF4.out.lt
    have hsz5 : w.heap.size + 1 < w5.heap.size := HF5.out.lt
    have HO5 : Hid (OwnsPlc base w5 y) := hO.lower (by have := HB4.out.size; omega)
    have HY5 : Hid (y.plc = ⟨⟨N, xa, xi, T, es, is, ps⟩, f⟩) := hy
    obtain ⟨o1, o2, o3⟩ := hO
    obtain ⟨ya1, yc1, e1⟩ := own_form o1
    obtain ⟨ya2, yc2, e2⟩ := own_form o2
    obtain ⟨ya3, yc3, e3⟩ := own_form o3
    generalize y.mod.exps.length = yn1 at *
    generalize y.mod.imps.length = yn2 at *
    generalize y.mod.pats.length = yn3 at *
    have HYC : Hid (pvC y = [.string y.mod.name, .int .i64 y.mod.major, .int .i64 y.mod.minor, .string y.mod.text, .slice ya1 yn1 yc1, .slice ya2 yn2 yc2, .slice ya3 yn3 yc3, .int .i64 y.first]) := by
      show [_, _, _, _, y.ve, y.vi, y.vp, _] = _
      rw [e1, e2, e3]
    rw [e1, e2, e3]
    clear e1 e2 e3 o1 o2 o3 hy b5 HCP HB4 HC4 HM4 HF4 hsz4
    go_simp
    refine hK.out _ _ ⟨HC5.out, HM5.out, HF5.out⟩ (fun _ => ?_)
    clear hK Kq
    generalize hyN : y.mod.name = yN at *
    generalize hyT : y.mod.text = yT at *
    generalize hya : y.mod.major = yma at *
    generalize hyi : y.mod.minor = ymi at *
    generalize hyf : y.first = yf at *
    clear hyN hyT hya hyi hyf
    refine wpL_step (i := 11) rfl (by kernel_rfl) (fun Kq hK => ?_)
    go_simp
    have b6 : Below w5.heap.size w5 (w5.alloc (.cells #[.string yN, .int .i64 yma, .int .i64 ymi, .string yT, .slice ya1 yn1 yc1, .slice ya2 yn2 yc2, .slice ya3 yn3 yc3, .int .i64 yf] 57)) := (Below.refl _ _).alloc (Nat.le_refl _) _
    have HB6 : Hid (Below w.heap.size w (w5.alloc (.cells #[.string yN, .int .i64 yma, .int .i64 ymi, .string yT, .slice ya1 yn1 yc1, .slice ya2 yn2 yc2, .slice ya3 yn3 yc3, .int .i64 yf] 57))) := HB5.out.trans (b6.mono HB5.out.size)
    have HC6 : Hid (CellsAt (w5.alloc (.cells #[.string yN, .int .i64 yma, .int .i64 ymi, .string yT, .slice ya1 yn1 yc1, .slice ya2 yn2 yc2, .slice ya3 yn3 yc3, .int .i64 yf] 57)) Bp 77 #[.int .i64 K.major, .int .i64 K.minor, .slice qe K.exps.length je, .slice va l.length vc]) := HC5.out.below b6 HC5.out.lt
    have HM6 : Hid (CellsAt (w5.alloc (.cells #[.string yN, .int .i64 yma, .int .i64 ymi, .string yT, .slice ya1 yn1 yc1, .slice ya2 yn2 yc2, .slice ya3 yn3 yc3, .int .i64 yf] 57)) w.heap.size 31 #[.string N, .int .i64 xa, .int .i64 xi, .string T, .slice pe le ke, .slice pi li ki, .slice pp lp kp]) := HM5.out.below b6 HM5.out.lt
    have HF6 : Hid (CellsAt (w5.alloc (.cells #[.string yN, .int .i64 yma, .int .i64 ymi, .string yT, .slice ya1 yn1 yc1, .slice ya2 yn2 yc2, .slice ya3 yn3 yc3, .int .i64 yf] 57)) (w.heap.size + 1) 3 #[.int .i64 f]) := HF5.out.below b6 HF5.out.lt
    have HO6 : Hid (OwnsPlc base (w5.alloc (.cells #[.string yN, .int .i64 yma, .int .i64 ymi, .string yT, .slice ya1 yn1 yc1, .slice ya2 yn2 yc2, .slice ya3 yn3 yc3, .int .i64 yf] 57)) y) := HO5.out.below b6
    have HV6 : Hid (CellsAt (w5.alloc (.cells #[.string yN, .int .i64 yma, .int .i64 ymi, .string yT, .slice ya1 yn1 yc1, .slice ya2 yn2 yc2, .slice ya3 yn3 yc3, .int .i64 yf] 57)) w5.heap.size 57 (pvC y).toArray) := by
      rw [HYC.out]
      exact CellsAt.new _ _ _
    refine hK.out _ _ ⟨HC6.out, HM6.out, HF6.out⟩ (fun _ => ?_)
    clear hK Kq b6 HB5 HC5 HM5 HF5 HO5
    have hl6 : w5.heap.size < (w5.alloc (.cells #[.string yN, .int .i64 yma, .int .i64 ymi, .string yT, .slice ya1 yn1 yc1, .slice ya2 yn2 yc2, .slice ya3 yn3 yc3, .int .i64 yf] 57)).heap.size := HV6.out.lt
    have h56 : w.heap.size + 1 < w5.heap.size := hsz5
    clear hsz5
    generalize (w5.alloc (.cells #[.string yN, .int .i64 yma, .int .i64 ymi, .string yT, .slice ya1 yn1 yc1, .slice ya2 yn2 yc2, .slice ya3 yn3 yc3, .int .i64 yf] 57)) = w6 at *
    generalize w5.heap.size = B5 at *
    refine wpL_step (i := 12) rfl (by kernel_rfl) (fun Kq hK => ?_)
    go_simp
    have HL6 : Hid (w6.ownsRow base 57 8 (.slice va l.length vc) l.length (l.flatMap pvC)) := own_below HCM.out HB6.out
    have hyo : ∀ u ∈ pvC y, u.oneCell' = true := by
      rw [HYC.out]
      intro u hu
      simp only [List.mem_cons, List.not_mem_nil, or_false] at hu
      rcases hu with rfl | rfl | rfl | rfl | rfl | rfl | rfl | rfl <;> rfl
    refine (insPlc_any (.slice va l.length vc) l.length j base B5 l y w6 HL6.out rfl (by omega) hone hyo (by omega) HV6.out (by intro e; have := hPB _ e; omega) (by omega)).mono ?_
    rintro e w7 ⟨v7, rfl, ho7, hg7⟩
    have HK7 : Hid (Keeps base w w7) := (Keeps.of HB6.out (by omega)).trans (Keeps.row HL6.out hg7 (by omega))
    have HC7 : Hid (CellsAt w7 Bp 77 #[.int .i64 K.major, .int .i64 K.minor, .slice qe K.exps.length je, .slice va l.length vc]) := cells_beside HC6.out HL6.out (by decide) hg7
    have HM7 : Hid (CellsAt w7 w.heap.size 31 #[.string N, .int .i64 xa, .int .i64 xi, .string T, .slice pe le ke, .slice pi li ki, .slice pp lp kp]) := cells_beside HM6.out HL6.out (by decide) hg7
    have HF7 : Hid (CellsAt w7 (w.heap.size + 1) 3 #[.int .i64 f]) := cells_beside HF6.out HL6.out (by decide) hg7
    have HO7 : Hid (OwnsPlc base w7 y) := HO6.out.beside HL6.out hg7
    have HP7 : Hid (∀ z ∈ l, OwnsPlc base w7 z) := fun z hz => ((HPM.out z hz).below HB6.out).beside HL6.out hg7
    have HE7 : Hid (w7.ownsRow base 129 2 (.slice qe K.exps.length je) K.exps.length (K.exps.flatMap expC)) := own_beside (own_below HEM.out HB6.out) HL6.out (by decide) hg7
    have HL7 : Hid (w7.ownsRow base 57 8 v7 (l.length + 1) ((putI l j y).flatMap pvC)) := ho7
    obtain ⟨na, nc, rfl⟩ := own_form ho7
    clear hyo hg7 ho7 HB6 HC6 HM6 HF6 HO6 HV6 HL6
    go_simp
    refine hK.out _ _ ⟨HC7.out, HM7.out, HF7.out⟩ (fun hS7 => ?_)
    clear hK Kq
    refine wpL_take 13 35 (.pointer (some ⟨Bp, 0, none⟩)) rfl (by kernel_rfl) (fun _ _ _ h => h) hS7 rfl rfl (fun w' hSw => by clear hSw; go_simp) ?_
    simp only [List.setIfInBounds_toArray, List.set_cons_zero, List.set_cons_succ]
    refine wpL_take 14 36 (.pointer (some ⟨Bp, 0, none⟩)) rfl (by kernel_rfl) (fun _ _ _ h => h) hS7 rfl rfl (fun w' hSw => by clear hSw; go_simp) ?_
    simp only [List.setIfInBounds_toArray, List.set_cons_zero, List.set_cons_succ]
    refine wpL_take 15 37 (.pointer (some ⟨Bp, 3, none⟩)) rfl (by kernel_rfl) (fun _ _ _ h => h) hS7 rfl rfl (fun w' hSw => by clear hSw; go_simp) ?_
    simp only [List.setIfInBounds_toArray, List.set_cons_zero, List.set_cons_succ]
    have p3 := CellsAt.cell HC7.out 3
    have f3 := CellsAt.frozen HC7.out 3
    have pl := CellsAt.lt HC7.out
    simp at p3
    clear hS7
    refine wpL_last (x := 16) rfl (by kernel_rfl) (by kernel_rfl) (fun Kq hK => ?_)
    go_simp
    refine hK.out _ _ ?_
    refine NoPanic.normal ?_
    clear hK Kq p3 f3 pl
    have hG8 := grown_set w7 Bp 3 (.slice na (l.length + 1) nc)
    have HC8 := CellsAt.set 3 (.slice na (l.length + 1) nc) HC7.out
    simp only [List.setIfInBounds_toArray, List.set_cons_zero, List.set_cons_succ] at HC8
    have HLL : (putI l j y).length = l.length + 1 := by
      unfold putI
      rw [List.length_append, List.length_take, List.length_cons, List.length_drop]
      omega
    go_end0
    refine ⟨rfl, ⟨.slice na (l.length + 1) nc, putI l j y, ?_, ?_, ?_, HC8, HE7.out.kept hG8 (.inr (own_ne_cells HE7.out HC7.out (by decide))), ?_, ?_⟩, HK7.out.trans (Keeps.cell HC7.out (by decide) hG8 hb)⟩
    · rw [putI_map, HY5.out]
      exact HPT.out.symm
    · exact HLL
    · intro z hz
      unfold putI at hz
      rcases List.mem_append.1 hz with hz | hz
      · exact .inl (List.mem_of_mem_take hz)
      · rcases List.mem_cons.1 hz with rfl | hz
        · exact .inr (congrArg Plc.mod HY5.out)
        · exact .inl (List.mem_of_mem_drop hz)
    · rw [HLL]
      exact HL7.out.kept hG8 (.inr (own_ne_cells HL7.out HC7.out (by decide)))
    · intro z hz
      unfold putI at hz
      rcases List.mem_append.1 hz with hz | hz
      · exact (HP7.out z (List.mem_of_mem_take hz)).beCell HC7.out (by decide) (by decide) (by decide) hG8
      · rcases List.mem_cons.1 hz with rfl | hz
        · exact HO7.out.beCell HC7.out (by decide) (by decide) (by decide) hG8
        · exact (HP7.out z (List.mem_of_mem_drop hz)).beCell HC7.out (by decide) (by decide) (by decide) hG8

end Go.Proofs.YtlpnfbpgnfappaaGreat

/- The contract of the planner's room. -/
namespace Go.Proofs.YtlpnfbpgnfappaaGreat
open Go.RowKit Go.PlainAid Go.Lib Go.Sort

set_option maxRecDepth 100000

set_option maxHeartbeats 1000000 in
theorem idxRun2_any (l : List (Int × Int)) (v : Value) (K : FuncId) (c d : Value) (hK : ∀ w x, Sem.run Tryz.prog (callFunc K #[x, c, d]) w = .ok (.enter K #[x, c, d]) w) (p : Int × Int → Bool) (w : World) (hrow : RowOf 2 runCell w.heap.size w v l)
    (hp : ∀ x ∈ l, ∀ W, Below w.heap.size w W → Calls Tryz.prog K #[.agg #[.int .i64 x.1, .int .i64 x.2], c, d] W fun e W' => e = .returned (.bool (p x)) ∧ Below W.heap.size W W') :
    Calls Tryz.prog 93 #[v, .func (.func K) #[] #[c, d]] w fun e w' => e = .returned (.int .i64 (ixFrom p 0 l)) ∧ Below w.heap.size w w' := by
  obtain ⟨a, cap, rfl, _, hrow⟩ := hrow
  go_enter Tryz.func93, Tryz.ntmps93
  go_wp2
  go_loopw [8] (fun i wr => ∃ (k : Nat), k ≤ l.length ∧ i = .int .i64 k ∧ Hid (ixFrom p 0 l = ixFrom p k (l.drop k)) ∧ Below w.heap.size w wr) (fun i _ => l.length - (intOf i).toNat)
  case atStart => exact ⟨0, Nat.zero_le _, rfl, by show ixFrom p 0 l = ixFrom p 0 (l.drop 0); rfl, Below.refl _ _⟩
  case round =>
    obtain ⟨k, hk, rfl, HC, B⟩ := hrel
    by_cases hlt : k < l.length
    · obtain ⟨x, hx⟩ : ∃ x, l[k]? = some x := ⟨_, List.getElem?_eq_getElem hlt⟩
      rcases hrow with h | ⟨b, off, rfl, hbn, hcells⟩
      · subst h; simp at hlt
      have HP := hp x (List.mem_of_getElem? hx)
      obtain ⟨nm, ps⟩ := x
      have c0 := (B.cell (p := ⟨b, off + k * 2 + 0, none⟩) hbn).trans (hcells k _ hx 0 (by omega))
      have c1 := (B.cell (p := ⟨b, off + k * 2 + 1, none⟩) hbn).trans (hcells k _ hx 1 (by omega))
      dsimp only [runCell] at c0 c1
      rw [Nat.add_zero] at c0
      have HR : Hid (ixFrom p 0 l = if p ⟨nm, ps⟩ then (k : Int) else ixFrom p (k + 1) (l.drop (k + 1))) := by
        show ixFrom p 0 l = _
        rw [HC.out, drop_at hx]; rfl
      have HP' : Hid (∀ W, Below w.heap.size w W → Calls Tryz.prog K #[.agg #[.int .i64 nm, .int .i64 ps], c, d] W fun e W' => e = .returned (.bool (p ⟨nm, ps⟩)) ∧ Below W.heap.size W W') := HP
      clear HC hcells hx HP
      generalize p ⟨nm, ps⟩ = t at HR HP'
      go_wp2_with fail
      refine Calls.mono (HP'.out _ B) ?_
      rintro e w2 ⟨rfl, b2⟩
      have B2 := B.trans (b2.mono B.size)
      clear b2 HP' c0 c1
      cases t
      · go_wp2
        exact ⟨⟨k + 1, by omega, by go_num, HR.out, B2⟩, by simp [intOf]; omega⟩
      · go_wp2
        go_ret
        exact ⟨by rw [HR.out]; rfl, B2⟩
    · obtain rfl : k = l.length := by omega
      have HZ : Hid (ixFrom p 0 l = -1) := by
        show ixFrom p 0 l = -1
        rw [HC.out, List.drop_length]; rfl
      go_wp2
      go_ret
      exact ⟨by rw [HZ.out]; rfl, B⟩

set_option maxHeartbeats 1000000 in
theorem anyRun_any (l : List (Int × Int)) (v : Value) (K : FuncId) (c d : Value) (hK : ∀ w x, Sem.run Tryz.prog (callFunc K #[x, c, d]) w = .ok (.enter K #[x, c, d]) w) (p : Int × Int → Bool) (w : World) (hrow : RowOf 2 runCell w.heap.size w v l)
    (hp : ∀ x ∈ l, ∀ W, Below w.heap.size w W → Calls Tryz.prog K #[.agg #[.int .i64 x.1, .int .i64 x.2], c, d] W fun e W' => e = .returned (.bool (p x)) ∧ Below W.heap.size W W') :
    Calls Tryz.prog 101 #[v, .func (.func K) #[] #[c, d]] w fun e w' => e = .returned (.bool (l.any p)) ∧ Below w.heap.size w w' := by
  have HI : Hid (Calls Tryz.prog 93 #[v, .func (.func K) #[] #[c, d]] w fun e w' => e = .returned (.int .i64 (ixFrom p 0 l)) ∧ Below w.heap.size w w') := idxRun2_any l v K c d hK p w hrow hp
  obtain ⟨a, cap, rfl, _, _⟩ := hrow
  have key := ix_any p l 0
  generalize l.any p = r at *
  generalize ixFrom p 0 l = ix at *
  generalize l.length = ll at *
  clear hK hp
  go_enter Tryz.func101, Tryz.ntmps101
  go_wp2_with fail
  refine HI.out.mono ?_
  rintro e w2 ⟨rfl, b2⟩
  clear HI
  rcases key with ⟨rfl, h1⟩ | ⟨rfl, rfl⟩
  · go_wp2
    go_ret
    exact ⟨rfl, b2⟩
  · go_wp2
    go_ret
    exact ⟨rfl, b2⟩

set_option maxHeartbeats 1000000 in
theorem plRoom1_any (x : Int × Int) (B C : Nat) (wanted many : Int) (w : World) (hB : B < w.heap.size) (hC : C < w.heap.size) (hb : w.cell? ⟨B, 0, none⟩ = some (.int .i64 wanted)) (hc : w.cell? ⟨C, 0, none⟩ = some (.int .i64 many)) (h0 : 0 ≤ wanted ∧ wanted ≤ 100) (h1 : 0 ≤ many ∧ many ≤ 100) (h2 : 0 ≤ x.1 ∧ x.1 ≤ 100) (h3 : 0 ≤ x.2 ∧ x.2 ≤ 100) :
    Calls Tryz.prog 102 #[.agg #[.int .i64 x.1, .int .i64 x.2], .pointer (some ⟨B, 0, none⟩), .pointer (some ⟨C, 0, none⟩)] w fun e w' => e = .returned (.bool (decide (x.1 ≤ wanted) && decide (wanted + many ≤ x.1 + x.2))) ∧ Below w.heap.size w w' := by
  obtain ⟨a, b⟩ := x
  dsimp only at *
  have b1 := (Below.refl w.heap.size w).alloc (Nat.le_refl _) (.cells #[.int .i64 a, .int .i64 b] 48)
  have hb' := (b1.cell (p := ⟨B, 0, none⟩) hB).trans hb
  have hc' := (b1.cell (p := ⟨C, 0, none⟩) hC).trans hc
  have w1 : IntKind.i64.wrap (wanted + many) = wanted + many := by rw [IntKind.wrap_i64]; omega
  have w2 : IntKind.i64.wrap (a + b) = a + b := by rw [IntKind.wrap_i64]; omega
  have HB1 : Hid _ := b1
  clear b1
  by_cases g1 : a ≤ wanted
  · have g2 : decide (a ≤ wanted) = true := decide_eq_true g1
    rw [g2, Bool.true_and]
    generalize hd : decide (wanted + many ≤ a + b) = d
    go_enter Tryz.func102, Tryz.ntmps102
    go_wp2
    go_ret
    refine ⟨?_, HB1.out⟩
    first | rfl | (rw [← hd]; rfl) | trace_state
  · have g2 : decide (a ≤ wanted) = false := decide_eq_false g1
    rw [g2, Bool.false_and]
    go_enter Tryz.func102, Tryz.ntmps102
    go_wp2
    go_ret
    exact ⟨rfl, HB1.out⟩

/-- Room, or none. -/
def roomRes (o : Option Int) : Int × Int := match o with | none => (0, 8) | some f => (f, 0)
theorem runs_bd {L : List Plc} (h : chkReg L = 0) : ∀ r ∈ runsFrom 0 L, 0 ≤ r.1 ∧ r.1 ≤ 100 ∧ 0 ≤ r.2 ∧ r.2 ≤ 100 := by
  have key : ∀ {l : List (Int × Int)} {e : Int}, rises e l → ∀ r ∈ l, e ≤ r.1 ∧ 1 ≤ r.2 ∧ r.1 + r.2 ≤ 16 := by
    intro l
    induction l with
    | nil => intro e _ r hr; simp at hr
    | cons x l ih =>
      intro e h r hr
      obtain ⟨h1, h2, h3, h4⟩ := h
      rcases List.mem_cons.1 hr with rfl | hr
      · exact ⟨h1, h2, h3⟩
      · have := ih h4 r hr
        omega
  intro r hr
  have := key (runs_rise (chkReg_zero.1 h).2.2) r hr
  omega

set_option maxHeartbeats 4000000 in
theorem plRoom_any (base Bp : Nat) (K : Ker) (ve vl : Value) (l : List PV) (wanted many : Int) (w : World) (hp : PackAt base Bp w 77 K ve vl l) (hl : Lens l) (hfit : ∀ x ∈ l, x.mod.fits) (h0 : chkReg (l.map PV.plc) = 0) (hw : 0 ≤ wanted ∧ wanted ≤ 16) (hm : 1 ≤ many ∧ many ≤ 4) :
    Calls Tryz.prog 45 #[.pointer (some ⟨Bp, 0, none⟩), .int .i64 wanted, .int .i64 many] w fun e w' => e = .returned (.tuple #[.int .i64 (roomRes (roomOf (l.map PV.plc) wanted many)).1, .int .i64 (roomRes (roomOf (l.map PV.plc) wanted many)).2]) ∧ Below w.heap.size w w' := by
  have hrow := hp.rows hl
  have HFR : Hid (∀ W, Below w.heap.size w W → Calls Tryz.prog 19 #[vl] W fun e w' => (∃ r, e = .returned (.tuple #[r, .int .i64 0]) ∧ RowOf 2 runCell w'.heap.size w' r (runsFrom 0 (l.map PV.plc))) ∧ Below W.heap.size W w') := fun W hb => by
    have := free_any l vl W ((hrow.below hb).more hb.size) hfit
    rw [h0, show freeRes (l.map PV.plc) = runsFrom 0 (l.map PV.plc) from if_pos h0] at this
    exact this
  have HFS : Hid (∀ W, Below w.heap.size w W → Calls Tryz.prog 39 #[vl, .int .i64 many] W fun e w' => e = .returned (.tuple #[.int .i64 (firstRes (l.map PV.plc) many).1, .int .i64 (firstRes (l.map PV.plc) many).2]) ∧ Below W.heap.size W w') := fun W hb => first_any l vl many W ((hrow.below hb).more hb.size) hfit
  have hbd := runs_bd h0
  have HKEY : Hid (((runsFrom 0 (l.map PV.plc)).any (fun r => decide (r.1 ≤ wanted) && decide (wanted + many ≤ r.1 + r.2)) = true ∧ roomRes (roomOf (l.map PV.plc) wanted many) = (wanted, 0)) ∨ ((runsFrom 0 (l.map PV.plc)).any (fun r => decide (r.1 ≤ wanted) && decide (wanted + many ≤ r.1 + r.2)) = false ∧ roomRes (roomOf (l.map PV.plc) wanted many) = firstRes (l.map PV.plc) many)) := by
    show _ ∨ _
    unfold roomOf
    cases ha : (runsFrom 0 (l.map PV.plc)).any (fun r => decide (r.1 ≤ wanted) && decide (wanted + many ≤ r.1 + r.2)) with
    | true => exact .inl ⟨rfl, by rw [if_pos rfl]; rfl⟩
    | false =>
      refine .inr ⟨rfl, ?_⟩
      rw [if_neg (by decide)]
      unfold firstRes
      rw [if_neg (by omega), if_neg (by omega)]
      cases fitOf many (runsFrom 0 (l.map PV.plc)) <;> rfl
  obtain ⟨va, vc, rfl⟩ := own_form hp.2.2.1
  have hcell := hp.1
  generalize roomRes (roomOf (l.map PV.plc) wanted many) = RR at *
  generalize firstRes (l.map PV.plc) many = FRS at *
  generalize hRF : runsFrom 0 (l.map PV.plc) = RF at *
  obtain ⟨f1, f2⟩ := FRS
  obtain ⟨r1, r2⟩ := RR
  dsimp only at *
  have b1 : Below w.heap.size w (w.alloc (.cells #[.int .i64 wanted] 3)) := (Below.refl _ _).alloc (Nat.le_refl _) _
  have b2 : Below w.heap.size w ((w.alloc (.cells #[.int .i64 wanted] 3)).alloc (.cells #[.int .i64 many] 3)) := b1.alloc b1.size _
  have HB2 : Hid (Below w.heap.size w ((w.alloc (.cells #[.int .i64 wanted] 3)).alloc (.cells #[.int .i64 many] 3))) := b2
  have HW2 : Hid (CellsAt ((w.alloc (.cells #[.int .i64 wanted] 3)).alloc (.cells #[.int .i64 many] 3)) w.heap.size 3 #[.int .i64 wanted]) := (CellsAt.new w 3 #[.int .i64 wanted]).kept (World.grownBy_alloc _ _ none) (by simp)
  have HM2 : Hid (CellsAt ((w.alloc (.cells #[.int .i64 wanted] 3)).alloc (.cells #[.int .i64 many] 3)) (w.heap.size + 1) 3 #[.int .i64 many]) := by
    have := CellsAt.new (w.alloc (.cells #[.int .i64 wanted] 3)) 3 #[.int .i64 many]
    rw [World.size_alloc] at this
    exact this
  have HC2 : Hid (CellsAt ((w.alloc (.cells #[.int .i64 wanted] 3)).alloc (.cells #[.int .i64 many] 3)) Bp 77 #[.int .i64 K.major, .int .i64 K.minor, ve, .slice va l.length vc]) := hcell.below b2 hcell.lt
  have p3 := CellsAt.cell HC2.out 3
  have pl := CellsAt.lt HC2.out
  simp at p3
  clear b1 b2 hp hrow hcell hfit h0 hl
  generalize l.length = ll at *
  go_enter Tryz.func45, Tryz.ntmps45
  go_wp2_with fail
  refine (HFR.out _ HB2.out).mono ?_
  clear p3 pl
  generalize ((w.alloc (.cells #[.int .i64 wanted] 3)).alloc (.cells #[.int .i64 many] 3)) = w2 at *
  rintro e w3 ⟨⟨rv, rfl, hrun⟩, b3⟩
  have HB3 : Hid (Below w.heap.size w w3) := HB2.out.trans (b3.mono HB2.out.size)
  have HW3 : Hid (CellsAt w3 w.heap.size 3 #[.int .i64 wanted]) := HW2.out.below b3 HW2.out.lt
  have HM3 : Hid (CellsAt w3 (w.heap.size + 1) 3 #[.int .i64 many]) := HM2.out.below b3 HM2.out.lt
  have HC3 : Hid (CellsAt w3 Bp 77 #[.int .i64 K.major, .int .i64 K.minor, ve, .slice va ll vc]) := HC2.out.below b3 HC2.out.lt
  have HAN : Hid (Calls Tryz.prog 101 #[rv, .func (.func 102) #[] #[.pointer (some ⟨w.heap.size, 0, none⟩), .pointer (some ⟨w.heap.size + 1, 0, none⟩)]] w3 fun e w' => e = .returned (.bool (RF.any fun r => decide (r.1 ≤ wanted) && decide (wanted + many ≤ r.1 + r.2))) ∧ Below w3.heap.size w3 w') := by
    refine anyRun_any RF rv 102 _ _ (fun w x => enters_of Tryz.func102 (by kernel_rfl) rfl _ w) _ w3 hrun (fun x hx W hb => ?_)
    have hx' := hbd x hx
    exact plRoom1_any x w.heap.size (w.heap.size + 1) wanted many W (Nat.lt_of_lt_of_le HW3.out.lt hb.size) (Nat.lt_of_lt_of_le HM3.out.lt hb.size) ((hb.cell (p := ⟨w.heap.size, 0, none⟩) HW3.out.lt).trans (HW3.out.cell 0)) ((hb.cell (p := ⟨w.heap.size + 1, 0, none⟩) HM3.out.lt).trans (HM3.out.cell 0)) (by omega) (by omega) (by omega) (by omega)
  obtain ⟨ra, rc, rfl, _, _⟩ := hrun
  have hkey := HKEY.out
  generalize RF.any (fun r => decide (r.1 ≤ wanted) && decide (wanted + many ≤ r.1 + r.2)) = bb at *
  clear b3 HB2 HW2 HM2 HC2 HFR HKEY hbd hRF hw hm
  generalize RF.length = nr at *
  go_wp2_with fail
  refine HAN.out.mono ?_
  rintro e w4 ⟨rfl, b4⟩
  have HB4 : Hid (Below w.heap.size w w4) := HB3.out.trans (b4.mono HB3.out.size)
  have HW4 : Hid (CellsAt w4 w.heap.size 3 #[.int .i64 wanted]) := HW3.out.below b4 HW3.out.lt
  have HM4 : Hid (CellsAt w4 (w.heap.size + 1) 3 #[.int .i64 many]) := HM3.out.below b4 HM3.out.lt
  have HC4 : Hid (CellsAt w4 Bp 77 #[.int .i64 K.major, .int .i64 K.minor, ve, .slice va ll vc]) := HC3.out.below b4 HC3.out.lt
  clear b4 HB3 HW3 HM3 HC3 HAN
  rcases hkey with ⟨rfl, e1⟩ | ⟨rfl, e1⟩
  · injection e1 with e1 e2
    subst e1 e2
    have q := CellsAt.cell HW4.out 0
    have ql := CellsAt.lt HW4.out
    simp at q
    go_wp2
    go_ret2
    exact ⟨rfl, HB4.out⟩
  · injection e1 with e1 e2
    subst e1 e2
    have HS : Hid (∀ d os, Calls Tryz.prog 39 #[.slice va ll vc, .int .i64 many] (grow (redrawn w4 d) os) fun e w' => e = .returned (.tuple #[.int .i64 r1, .int .i64 r2]) ∧ Below (grow (redrawn w4 d) os).heap.size (grow (redrawn w4 d) os) w') := fun d os => by
      have hb := below_regrown w4 d os
      exact HFS.out _ (HB4.out.trans (hb.mono HB4.out.size))
    have q := CellsAt.cell HM4.out 0
    have ql := CellsAt.lt HM4.out
    have p3 := CellsAt.cell HC4.out 3
    have pl := CellsAt.lt HC4.out
    simp at q p3
    have t0 := cell_regrown q
    have t1 := cell_regrown p3
    clear q p3 HFS
    go_wp2_with fail
    refine wp_region_quiet_below (by kernel_rfl) (by kernel_rfl) ?_
    repeat (quiet_step ((go_at_call 39; go_must (exact Calls.regrown_of (HS.out _ _)))))
    refine wpQuiet_nil ?_
    intro _ hw'
    obtain ⟨⟨dq, osq⟩, hw''⟩ := hw'
    have B5 := HB4.out.trans ((below_regrown w4 dq osq).mono HB4.out.size)
    rw [← hw''] at B5
    clear hw'' t0 t1 HS
    go_wp2
    go_ret2
    exact ⟨rfl, B5⟩

end Go.Proofs.YtlpnfbpgnfappaaGreat

/- The contract of what package plan's Install hands to planned. -/
namespace Go.Proofs.YtlpnfbpgnfappaaGreat
open Go.RowKit Go.PlainAid Go.Lib

set_option maxRecDepth 100000

theorem inst_cases (l : List PV) (M : Mod) (h0 : chkReg (l.map PV.plc) = 0) :
    (chkMod M ≠ 0 ∧ instDo (l.map PV.plc) M = ([], chkMod M)) ∨
    (chkMod M = 0 ∧ (∃ j : Nat, ixFrom (fun x : PV => x.mod.name == M.name) 0 l = (j : Int)) ∧ instDo (l.map PV.plc) M = ([], 6)) ∨
    (chkMod M = 0 ∧ ixFrom (fun x : PV => x.mod.name == M.name) 0 l = -1 ∧ 8 ≤ l.length ∧ instDo (l.map PV.plc) M = ([], 2)) ∨
    (chkMod M = 0 ∧ ixFrom (fun x : PV => x.mod.name == M.name) 0 l = -1 ∧ l.length < 8 ∧ firstRes (l.map PV.plc) (szM M) = (0, 8) ∧ instDo (l.map PV.plc) M = ([], 8)) ∨
    (chkMod M = 0 ∧ ixFrom (fun x : PV => x.mod.name == M.name) 0 l = -1 ∧ l.length < 8 ∧ ∃ f, firstRes (l.map PV.plc) (szM M) = (f, 0) ∧ instDo (l.map PV.plc) M = (putAt (l.map PV.plc) ⟨M, f⟩, 0)) := by
  have hany : ((l.map PV.plc).any fun p => p.mod.name == M.name) = l.any fun x : PV => x.mod.name == M.name := by rw [List.any_map]; rfl
  unfold instDo
  rw [hany, List.length_map]
  by_cases hc : chkMod M = 0
  · rw [if_neg (by omega)]
    have hs := szM_bd hc
    rcases ix_spec (fun x : PV => x.mod.name == M.name) l 0 with ⟨h1, h2⟩ | ⟨j, x, h1, h2, h3, _⟩
    · have ha : (l.any fun x : PV => x.mod.name == M.name) = false := by
        rw [List.any_eq_false]
        intro x hx
        rw [h2 x hx]
        decide
      rw [ha, if_neg (by decide)]
      by_cases h8 : 8 ≤ l.length
      · exact .inr (.inr (.inl ⟨hc, h1, h8, by rw [if_pos h8]⟩))
      · rw [if_neg h8]
        unfold firstRes
        rw [if_neg (by omega), if_neg (by omega)]
        cases fitOf (szM M : Int) (runsFrom 0 (l.map PV.plc)) with
        | none => exact .inr (.inr (.inr (.inl ⟨hc, h1, by omega, rfl, rfl⟩)))
        | some r => exact .inr (.inr (.inr (.inr ⟨hc, h1, by omega, r.1, rfl, rfl⟩)))
    · have ha : (l.any fun x : PV => x.mod.name == M.name) = true := List.any_eq_true.2 ⟨x, List.mem_of_getElem? h2, h3⟩
      rw [ha, if_pos rfl]
      exact .inr (.inl ⟨hc, ⟨j, by rw [h1]; congr 1; omega⟩, rfl⟩)
  · exact .inl ⟨hc, by rw [if_pos hc]⟩

/-- What comes of what is to be done. -/
def Did (base Bp : Nat) (K : Ker) (ve : Value) (W w' : World) (D : List Plc × Int) : Prop :=
  Keeps base W w' ∧ (D.2 = 0 → ∃ vl' l', l'.map PV.plc = D.1 ∧ (∀ x ∈ l', x.mod.fits) ∧ Lens l' ∧ PackAt base Bp w' 77 K ve vl' l')

set_option maxHeartbeats 16000000 in
theorem plInst1_any (base Bp Bm : Nat) (K : Ker) (ve vl : Value) (l : List PV) (M : Mod) (vm : Value) (cm : Array Value) (w : World) (hp : PackAt base Bp w 77 K ve vl l) (hl : Lens l) (h8 : l.length ≤ 8) (hfit : ∀ x ∈ l, x.mod.fits) (h0 : chkReg (l.map PV.plc) = 0) (hb : base ≤ Bp) (hvm : vm = .agg cm) (hc : CellsAt w Bm 31 cm) (hm : IsMod w.heap.size w vm M) (hf : M.fits) :
    Calls Tryz.prog 37 #[.pointer (some ⟨Bp, 0, none⟩), .pointer (some ⟨Bm, 0, none⟩)] w fun e w' => e = .returned (.int .i64 (instDo (l.map PV.plc) M).2) ∧ Did base Bp K ve w w' (instDo (l.map PV.plc) M) := by
  have hrow := hp.rows hl
  have hbw : base ≤ w.heap.size := by have := hp.1.lt; omega
  have HSZ : Hid (∀ W, Below w.heap.size w W → Calls Tryz.prog 18 #[vm] W fun e w' => e = .returned (.tuple #[.int .i64 (if chkMod M = 0 then (szM M : Int) else 0), .int .i64 (chkMod M)]) ∧ Below W.heap.size W w') := fun W hb => size_any M vm W ((hm.below hb).more hb.size) hf
  have HFN : Hid (∀ W, Below w.heap.size w W → Calls Tryz.prog 38 #[.pointer (some ⟨Bp, 0, none⟩), .string M.name] W fun e w' => e = .returned (.int .i64 (ixFrom (fun x : PV => x.mod.name == M.name) 0 l)) ∧ Below W.heap.size W w') := fun W hb => plFind_any base Bp K ve vl l M.name W (hp.below hb) hl
  have HFS : Hid (∀ W, Below w.heap.size w W → Calls Tryz.prog 39 #[vl, .int .i64 (szM M : Int)] W fun e w' => e = .returned (.tuple #[.int .i64 (firstRes (l.map PV.plc) (szM M)).1, .int .i64 (firstRes (l.map PV.plc) (szM M)).2]) ∧ Below W.heap.size W w') := fun W hb => first_any l vl (szM M) W ((hrow.below hb).more hb.size) hfit
  have HPT : Hid (chkMod M = 0 → ∀ f W, Below w.heap.size w W → Calls Tryz.prog 40 #[.pointer (some ⟨Bp, 0, none⟩), vm, .int .i64 f] W fun e w' => e = .returned (.tuple #[]) ∧ (∃ vl' l', l'.map PV.plc = putAt (l.map PV.plc) ⟨M, f⟩ ∧ (∀ x ∈ l', x.mod.fits) ∧ Lens l' ∧ PackAt base Bp w' 77 K ve vl' l') ∧ Keeps base W w') := fun hz f W hb' => by
    have hx := chkMod_exps hz
    refine (plPut_any base Bp K ve vl l M vm f W (hp.below hb') hl ((hm.below hb').more hb'.size) (by omega) hb).mono ?_
    rintro e w' ⟨rfl, ⟨vl', l', h1, h2, h3, h4⟩, h5⟩
    refine ⟨rfl, ⟨vl', l', h1, fun x hx' => ?_, ⟨by rw [h2]; omega, fun x hx' => ?_⟩, h4⟩, h5⟩
    · rcases h3 x hx' with g | g
      · exact hfit x g
      · rw [g]; exact hf
    · rcases h3 x hx' with g | g
      · exact hl.2 x g
      · rw [g]; omega
  have key := inst_cases l M h0
  have hcell := hp.1
  obtain ⟨va, vc, rfl⟩ := own_form hp.2.2.1
  obtain ⟨vxe, vxi, vxp, hvv, hxE, hxI, hxP⟩ := hm
  obtain ⟨pe, ke, e4, -⟩ := hxE
  obtain ⟨pi, ki, e5, -⟩ := hxI
  obtain ⟨pp, kp, e6, -⟩ := hxP
  subst e4 e5 e6
  rw [hvv] at hvm
  injection hvm with hvm
  subst hvm
  rw [hvv] at HSZ HPT
  clear hvv
  have HC0 : Hid (CellsAt w Bp 77 #[.int .i64 K.major, .int .i64 K.minor, ve, .slice va l.length vc]) := hcell
  have HM0 : Hid (CellsAt w Bm 31 #[.string M.name, .int .i64 M.major, .int .i64 M.minor, .string M.text, .slice pe M.exps.length ke, .slice pi M.imps.length ki, .slice pp M.pats.length kp]) := hc
  have HBW : Hid (base ≤ w.heap.size) := hbw
  generalize instDo (l.map PV.plc) M = D at *
  generalize firstRes (l.map PV.plc) (szM M) = FRS at *
  generalize hPUT : putAt (l.map PV.plc) = PUT at *
  generalize ixFrom (fun x : PV => x.mod.name == M.name) 0 l = ix at *
  obtain ⟨N, xa, xi, T, es, is, ps⟩ := M
  dsimp only at *
  generalize hck : chkMod ⟨N, xa, xi, T, es, is, ps⟩ = ck at *
  generalize hsz : (szM ⟨N, xa, xi, T, es, is, ps⟩ : Int) = sz at *
  generalize es.length = le at *
  generalize is.length = li at *
  generalize ps.length = lp at *
  have m0 := CellsAt.cell HM0.out 0
  have m1 := CellsAt.cell HM0.out 1
  have m2 := CellsAt.cell HM0.out 2
  have m3 := CellsAt.cell HM0.out 3
  have m4 := CellsAt.cell HM0.out 4
  have m5 := CellsAt.cell HM0.out 5
  have m6 := CellsAt.cell HM0.out 6
  have ml := CellsAt.lt HM0.out
  simp at m0 m1 m2 m3 m4 m5 m6
  clear hp hl hfit h0 hrow hcell hc hf hbw hck hsz
  go_enter Tryz.func37, Tryz.ntmps37
  go_wp2_with fail
  refine (HSZ.out _ (Below.refl _ _)).mono ?_
  clear m0 m1 m2 m3 m4 m5 m6 ml
  rintro e w2 ⟨rfl, b2⟩
  have HB2 : Hid (Below w.heap.size w w2) := b2
  have HM2 : Hid (CellsAt w2 Bm 31 #[.string N, .int .i64 xa, .int .i64 xi, .string T, .slice pe le ke, .slice pi li ki, .slice pp lp kp]) := HM0.out.below b2 HM0.out.lt
  have HC2 : Hid (CellsAt w2 Bp 77 #[.int .i64 K.major, .int .i64 K.minor, ve, .slice va l.length vc]) := HC0.out.below b2 HC0.out.lt
  clear b2 HSZ HM0 HC0
  rcases key with ⟨hk, rfl⟩ | ⟨rfl, ⟨j, rfl⟩, rfl⟩ | ⟨rfl, rfl, hk, rfl⟩ | ⟨rfl, rfl, hk, rfl, rfl⟩ | ⟨rfl, rfl, hk, f, rfl, rfl⟩
  · have hk' : (ck != 0) = true := by simpa using hk
    have HK : Hid (ck ≠ 0) := hk
    clear hk HPT
    go_wp2
    go_ret
    exact ⟨rfl, Keeps.of HB2.out HBW.out, fun h => absurd h HK.out⟩
  all_goals
    simp only [if_true]
    have m0 := CellsAt.cell HM2.out 0
    have ml := CellsAt.lt HM2.out
    simp at m0
    go_wp2_with fail
    refine (HFN.out _ HB2.out).mono ?_
    clear m0 ml
    rintro e w3 ⟨rfl, b3⟩
    have HB3 : Hid (Below w.heap.size w w3) := HB2.out.trans (b3.mono HB2.out.size)
    have HM3 : Hid (CellsAt w3 Bm 31 #[.string N, .int .i64 xa, .int .i64 xi, .string T, .slice pe le ke, .slice pi li ki, .slice pp lp kp]) := HM2.out.below b3 HM2.out.lt
    have HC3 : Hid (CellsAt w3 Bp 77 #[.int .i64 K.major, .int .i64 K.minor, ve, .slice va l.length vc]) := HC2.out.below b3 HC2.out.lt
    clear b3 HFN HB2 HM2 HC2
  · have hj : (0 : Int) ≤ (j : Int) := by omega
    clear HPT
    go_wp2
    go_ret
    exact ⟨rfl, Keeps.of HB3.out HBW.out, fun h => absurd h (by decide)⟩
  all_goals
    have p3 := CellsAt.cell HC3.out 3
    have pl := CellsAt.lt HC3.out
    simp at p3
  · have hk' : (8 : Int) ≤ (l.length : Int) := by omega
    clear HPT
    go_wp2
    go_ret
    exact ⟨rfl, Keeps.of HB3.out HBW.out, fun h => absurd h (by decide)⟩
  all_goals
    have hk' : ¬ ((8 : Int) ≤ (l.length : Int)) := by omega
    go_wp2_with fail
    refine (HFS.out _ HB3.out).mono ?_
    clear p3 pl
    rintro e w4 ⟨rfl, b4⟩
    have HB4 : Hid (Below w.heap.size w w4) := HB3.out.trans (b4.mono HB3.out.size)
    have HM4 : Hid (CellsAt w4 Bm 31 #[.string N, .int .i64 xa, .int .i64 xi, .string T, .slice pe le ke, .slice pi li ki, .slice pp lp kp]) := HM3.out.below b4 HM3.out.lt
    have HC4 : Hid (CellsAt w4 Bp 77 #[.int .i64 K.major, .int .i64 K.minor, ve, .slice va l.length vc]) := HC3.out.below b4 HC3.out.lt
    clear b4 HFS HB3 HM3 HC3
  · clear HPT
    go_wp2
    go_ret
    exact ⟨rfl, Keeps.of HB4.out HBW.out, fun h => absurd h (by decide)⟩
  · have HPT2 : Hid _ := HPT.out (by first | rfl | trivial)
    clear HPT
    have m0 := CellsAt.cell HM4.out 0
    have m1 := CellsAt.cell HM4.out 1
    have m2 := CellsAt.cell HM4.out 2
    have m3 := CellsAt.cell HM4.out 3
    have m4 := CellsAt.cell HM4.out 4
    have m5 := CellsAt.cell HM4.out 5
    have m6 := CellsAt.cell HM4.out 6
    have ml := CellsAt.lt HM4.out
    simp at m0 m1 m2 m3 m4 m5 m6
    go_wp2_with fail
    refine (HPT2.out f _ HB4.out).mono ?_
    clear m0 m1 m2 m3 m4 m5 m6 ml
    rintro e w5 ⟨rfl, hdid, hk5⟩
    have HD5 : Hid _ := hdid
    have HK5 : Hid (Keeps base w4 w5) := hk5
    clear hdid hk5 HPT2
    go_wp2
    go_ret
    exact ⟨rfl, (Keeps.of HB4.out HBW.out).trans HK5.out, fun _ => HD5.out⟩

end Go.Proofs.YtlpnfbpgnfappaaGreat
