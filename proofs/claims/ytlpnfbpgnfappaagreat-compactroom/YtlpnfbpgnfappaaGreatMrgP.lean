/- Texts that are laid together. -/
import Derived.Test.YtlpnfbpgnfappaaGreatMrgK
import Derived.Test.YtlpnfbpgnfappaaGreatMrgO
import Derived.Test.YtlpnfbpgnfappaaGreatMrgM
import Derived.Laws.ResultCell
import Derived.Test.YtlpnfbpgnfappaaGreatMrgN

/- What the first free run and the first module behind it say of a step, as data. -/
namespace Go.Proofs.YtlpnfbpgnfappaaGreat
open Go.RowKit Go.PlainAid

theorem step_run : ∀ {L : List Plc} {e : Int}, okPl e L →
    (stepFrom e L = none ∧ (runsFrom e L = [] ∨ ∃ r rs, runsFrom e L = r :: rs ∧ e ≤ r.1 ∧ ∀ p ∈ L, p.first ≤ r.1)) ∨
    (∃ r rs j p, runsFrom e L = r :: rs ∧ e ≤ r.1 ∧ L[j]? = some p ∧ r.1 < p.first ∧ (∀ i q, i < j → L[i]? = some q → q.first ≤ r.1) ∧ stepFrom e L = some (L.set j ⟨p.mod, r.1⟩))
  | [], e, _ => by
    refine .inl ⟨rfl, ?_⟩
    have hr : runsFrom e [] = gapOf e 16 := rfl
    rw [hr]
    unfold gapOf
    split
    · first | exact .inl rfl | exact .inr ⟨_, _, rfl, Int.le_refl _, fun p hp => by simp at hp⟩
    · first | exact .inl rfl | exact .inr ⟨_, _, rfl, Int.le_refl _, fun p hp => by simp at hp⟩
  | p :: l, e, ⟨h1, h2, h3, h4⟩ => by
    have hst : stepFrom e (p :: l) = if p.first = e then (stepFrom (e + szM p.mod) l).map (p :: ·) else some (⟨p.mod, e⟩ :: l) := rfl
    by_cases hp : p.first = e
    · have hr : runsFrom e (p :: l) = runsFrom (e + szM p.mod) l := by
        have h0 : runsFrom e (p :: l) = gapOf e p.first ++ runsFrom (p.first + szM p.mod) l := rfl
        have hg : gapOf e e = [] := by
          unfold gapOf
          first | rw [if_neg (by omega)] | rw [if_pos rfl]
        rw [h0, hp, hg]
        rfl
      rw [hst, if_pos hp, hr]
      rw [hp] at h4
      rcases step_run h4 with ⟨n1, n2⟩ | ⟨r, rs, j, q, e1, e2, e3, e4, e5, e6⟩
      · refine .inl ⟨by rw [n1]; rfl, ?_⟩
        rcases n2 with n2 | ⟨r, rs, e1, e2, e3⟩
        · exact .inl n2
        · refine .inr ⟨r, rs, e1, by omega, fun x hx => ?_⟩
          rcases List.mem_cons.1 hx with rfl | hx
          · omega
          · exact e3 x hx
      · refine .inr ⟨r, rs, j + 1, q, e1, by omega, e3, e4, fun i x hi hx => ?_, by rw [e6]; rfl⟩
        cases i with
        | zero =>
          have : p = x := by simpa using hx
          rw [← this]
          omega
        | succ i => exact e5 i x (by omega) (by simpa using hx)
    · have hlt : e < p.first := by omega
      refine .inr ⟨(e, p.first - e), runsFrom (p.first + szM p.mod) l, 0, p, ?_, Int.le_refl _, rfl, hlt, fun i x hi _ => by omega, ?_⟩
      · have h0 : runsFrom e (p :: l) = gapOf e p.first ++ runsFrom (p.first + szM p.mod) l := rfl
        have hg : gapOf e p.first = [(e, p.first - e)] := by
          unfold gapOf
          first | rw [if_pos hlt] | rw [if_neg (by omega)]
        rw [h0, hg]
        rfl
      · rw [hst, if_neg hp]
        rfl

end Go.Proofs.YtlpnfbpgnfappaaGreat

/- The contract of package compact's step. -/
namespace Go.Proofs.YtlpnfbpgnfappaaGreat
open Go.RowKit Go.PlainAid Go.Lib

set_option maxRecDepth 100000

theorem ix_at {α : Type} (p : α → Bool) : ∀ (l : List α) (k j : Nat) (x : α), l[j]? = some x → p x = true → (∀ i y, i < j → l[i]? = some y → p y = false) → ixFrom p k l = ((k + j : Nat) : Int)
  | [], _, _, _, h, _, _ => by simp at h
  | y :: l, k, 0, x, h, hx, _ => by
    obtain rfl : y = x := by simpa using h
    unfold ixFrom
    rw [if_pos hx]
    rfl
  | y :: l, k, j + 1, x, h, hx, hi => by
    unfold ixFrom
    rw [if_neg (by rw [hi 0 y (by omega) rfl]; decide), ix_at p l (k + 1) j x (by simpa using h) hx (fun i z h1 h2 => hi (i + 1) z (by omega) (by simpa using h2))]
    congr 1; omega
theorem ix_none {α : Type} (p : α → Bool) (l : List α) (k : Nat) (h : ∀ y ∈ l, p y = false) : ixFrom p k l = -1 := by
  rcases ix_find p l k with ⟨_, h2⟩ | ⟨j, x, _, h2, _⟩
  · exact h2
  · rcases ix_find p l k with ⟨_, h3⟩ | ⟨j', x', h3, _, _⟩
    · exact h3
    · have := List.find?_some h3
      rw [h x' (List.mem_of_find?_eq_some h3)] at this
      cases this

theorem cpFirst1_any (B : Nat) (f : Int) (x : PV) (w : World) (hlt : B < w.heap.size) (hB : w.cell? ⟨B, 0, none⟩ = some (.int .i64 f)) (hat : PlcAt w.heap.size w x) :
    Calls Tryz.prog 114 #[x.val, .pointer (some ⟨B, 0, none⟩)] w fun e w' => e = .returned (.bool (decide (f < x.first))) ∧ Below w.heap.size w w' := by
  obtain ⟨⟨pe, ke, e4, _⟩, ⟨pi, ki, e5, _⟩, ⟨pp, kp, e6, _⟩⟩ := hat
  obtain ⟨⟨N, ma, mi, T, es, is, ps⟩, ve, vi, vp, fi⟩ := x
  dsimp only at e4 e5 e6
  subst e4 e5 e6
  dsimp only [PV.val]
  generalize es.length = le at *
  generalize is.length = li at *
  generalize ps.length = lp at *
  go_enter Tryz.func114, Tryz.ntmps114
  go_wp2
  go_ret
  exact ⟨rfl, (Below.refl _ _).alloc (Nat.le_refl _) _⟩

/-- A placed module moved. -/
def PV.at (x : PV) (f : Int) : PV := ⟨x.mod, x.ve, x.vi, x.vp, f⟩
theorem own_first {W : World} {base g n cap : Nat} {l : List PV} {j : Nat} {x : PV} (h : W.ownsRow base 57 8 (.slice (some ⟨g, 0, none⟩) n cap) n (l.flatMap pvC)) (hx : l[j]? = some x) (f : Int) :
    (W.setCell ⟨g, j * 8 + 7, none⟩ (.int .i64 f)).ownsRow base 57 8 (.slice (some ⟨g, 0, none⟩) n cap) n ((l.set j (x.at f)).flatMap pvC) ∧ W.grownBy (W.setCell ⟨g, j * 8 + 7, none⟩ (.int .i64 f)) (some g) := by
  obtain ⟨o, gr⟩ := h.stored (j * 8 + 7) (.int .i64 f)
  rw [flat_put (C := pvC) (sz := 8) (fun _ => rfl) l j x (x.at f) 7 (.int .i64 f) hx (by omega) rfl] at o
  exact ⟨o, gr⟩
theorem plc_rows {base : Nat} {W : World} {l : List PV} (hP : ∀ x ∈ l, OwnsPlc base W x) (h : ∀ x ∈ l, x.mod.exps.length ≤ 255 ∧ x.mod.imps.length ≤ 255 ∧ x.mod.pats.length ≤ 255) : ∀ x ∈ l, PlcAt W.heap.size W x := fun x hx => (hP x hx).plcAt (h x hx).1 (h x hx).2.1 (h x hx).2.2
theorem reg_lens {l : List PV} (h0 : chkReg (l.map PV.plc) = 0) : l.length ≤ 8 ∧ ∀ x ∈ l, x.mod.exps.length ≤ 255 ∧ x.mod.imps.length ≤ 255 ∧ x.mod.pats.length ≤ 255 := by
  obtain ⟨h1, h2, _⟩ := chkReg_zero.1 h0
  rw [List.length_map] at h1
  refine ⟨h1, fun x hx => ?_⟩
  have := chkMod_exps (h2 x.plc (List.mem_map_of_mem hx))
  have e : x.plc.mod = x.mod := rfl
  rw [e] at this
  omega

/-- What a growth of the row of modules leaves. -/
def Moved (w : World) (vl : Value) (w' : World) : Prop := ∃ w1, Below w.heap.size w w1 ∧ w1.grownBy w' vl.ownBlock

set_option maxHeartbeats 16000000 in
theorem cpStep_any (K : Ker) (l : List PV) (ve vl : Value) (base Bp : Nat) (w : World) (hc : CellsAt w Bp 147 #[.int .i64 K.major, .int .i64 K.minor, ve, vl]) (hL : w.ownsRow base 57 8 vl l.length (l.flatMap pvC)) (hP : ∀ x ∈ l, OwnsPlc base w x) (hfit : ∀ x ∈ l, x.mod.fits) (h0 : chkReg (l.map PV.plc) = 0) :
    Calls Tryz.prog 63 #[.pointer (some ⟨Bp, 0, none⟩)] w fun e w' =>
      (stepFrom 0 (l.map PV.plc) = none ∧ e = .returned (.bool false) ∧ Below w.heap.size w w') ∨
      (∃ l' : List PV, stepFrom 0 (l.map PV.plc) = some (l'.map PV.plc) ∧ l'.map (·.mod) = l.map (·.mod) ∧ e = .returned (.bool true) ∧ CellsAt w' Bp 147 #[.int .i64 K.major, .int .i64 K.minor, ve, vl] ∧ w'.ownsRow base 57 8 vl l'.length (l'.flatMap pvC) ∧ (∀ x ∈ l', OwnsPlc base w' x) ∧ Moved w vl w') := by
  obtain ⟨h8, hlens⟩ := reg_lens h0
  have hrows : IsPlcs w.heap.size w vl l := ⟨own_rows (C := pvC) (cells := PV.cell) (sz := 8) (fun _ => rfl) pvC_at hL (by omega), plc_rows hP hlens⟩
  have HFR : Hid (Calls Tryz.prog 19 #[vl] w fun e w' => (∃ r, e = .returned (.tuple #[r, .int .i64 0]) ∧ RowOf 2 runCell w'.heap.size w' r (runsFrom 0 (l.map PV.plc))) ∧ Below w.heap.size w w') := by
    have := free_any l vl w hrows hfit
    rw [h0, show freeRes (l.map PV.plc) = runsFrom 0 (l.map PV.plc) from if_pos h0] at this
    exact this
  have HIX : Hid (∀ W B f, Below w.heap.size w W → B < W.heap.size → W.cell? ⟨B, 0, none⟩ = some (.int .i64 f) → Calls Tryz.prog 79 #[vl, .func (.func 114) #[] #[.pointer (some ⟨B, 0, none⟩)]] W fun e w' => e = .returned (.int .i64 (ixFrom (fun x : PV => decide (f < x.first)) 0 l)) ∧ Below W.heap.size W w') := by
    intro W B f hb hlt hB
    exact ixPlc_any l vl 114 (.pointer (some ⟨B, 0, none⟩)) (fun w x => enters_of Tryz.func114 (by kernel_rfl) rfl _ w) _ W ((hrows.1.below hb).more hb.size) (fun x hx W' hb' => cpFirst1_any B f x W' (Nat.lt_of_lt_of_le hlt hb'.size) ((hb'.cell (p := ⟨B, 0, none⟩) hlt).trans hB) ((((((hrows.2 x hx).below hb).more hb.size)).below hb').more hb'.size))
  have hok := (chkReg_zero.1 h0).2.2
  obtain ⟨va, vc, rfl⟩ := own_form hL
  have HL : Hid (w.ownsRow base 57 8 (.slice va l.length vc) l.length (l.flatMap pvC)) := hL
  have HP : Hid (∀ x ∈ l, OwnsPlc base w x) := hP
  have HC : Hid (CellsAt w Bp 147 #[.int .i64 K.major, .int .i64 K.minor, ve, .slice va l.length vc]) := hc
  have q3 := CellsAt.cell hc 3
  have ql := CellsAt.lt hc
  simp at q3
  rcases step_run hok with ⟨hs, hr⟩ | ⟨r, rs, j, p, hr, hr0, hj, hlt, hbef, hs⟩
  · have HS : Hid (stepFrom 0 (l.map PV.plc) = none) := hs
    rcases hr with hr | ⟨r, rs, hr, hr0, hall⟩
    · rw [hr] at HFR
      clear hr hs hrows hL hP hc hok h0 HIX
      go_enter Tryz.func63, Tryz.ntmps63
      go_wp2_with fail
      refine HFR.out.mono ?_
      rintro e w2 ⟨⟨rv, rfl, hrun⟩, b2⟩
      obtain ⟨ra, rc, rfl, _, _⟩ := hrun
      have HB2 : Hid (Below w.heap.size w w2) := b2
      clear b2 HFR q3 ql
      rw [show ([] : List (Int × Int)).length = 0 from rfl]
      go_wp2
      go_ret
      exact .inl ⟨HS.out, rfl, HB2.out⟩
    · rw [hr] at HFR
      have HIN : Hid (ixFrom (fun x : PV => decide (r.1 < x.first)) 0 l = -1) := ix_none _ _ _ fun y hy => decide_eq_false (by
        have := hall y.plc (List.mem_map_of_mem hy)
        have e : y.plc.first = y.first := rfl
        omega)
      clear hr hs hrows hL hP hc hok h0 hall
      go_enter Tryz.func63, Tryz.ntmps63
      go_wp2_with fail
      refine HFR.out.mono ?_
      rintro e w2 ⟨⟨rv, rfl, hrun⟩, b2⟩
      obtain ⟨ra, rc, rfl, _, hrow⟩ := hrun
      have HB2 : Hid (Below w.heap.size w w2) := b2
      have HC2 : Hid (CellsAt w2 Bp 147 #[.int .i64 K.major, .int .i64 K.minor, ve, .slice va l.length vc]) := HC.out.below b2 HC.out.lt
      rcases hrow with h | ⟨rb, roff, rfl, hrb, hrc⟩
      · cases h
      have c0 : w2.cell? ⟨rb, roff, none⟩ = some (.int .i64 r.1) := hrc 0 r rfl 0 (by omega)
      have hrl : (0 : Int) < ((r :: rs).length : Int) := by simp
      have hrl2 : ¬ ((r :: rs).length = 0) := by simp
      generalize (r :: rs).length = nr at *
      clear b2 HFR q3 ql hrc hrb
      go_upto_region 5 with fail
      have HB3 : Hid (Below w.heap.size w (w2.alloc (.cells #[.int .i64 r.1] 3))) := HB2.out.alloc HB2.out.size _
      have HC3 : Hid (CellsAt (w2.alloc (.cells #[.int .i64 r.1] 3)) Bp 147 #[.int .i64 K.major, .int .i64 K.minor, ve, .slice va l.length vc]) := HC2.out.kept (World.grownBy_alloc _ _ none) (by simp)
      have HF3 : Hid (CellsAt (w2.alloc (.cells #[.int .i64 r.1] 3)) w2.heap.size 3 #[.int .i64 r.1]) := CellsAt.new _ _ _
      generalize (w2.alloc (.cells #[.int .i64 r.1] 3)) = w3 at *
      have q3 := CellsAt.cell HC3.out 3
      have ql := CellsAt.lt HC3.out
      simp at q3
      go_wp2_with fail
      refine (HIX.out _ _ _ HB3.out HF3.out.lt (HF3.out.cell 0)).mono ?_
      rintro e w4 ⟨rfl, b4⟩
      rw [HIN.out]
      have HB4 : Hid (Below w.heap.size w w4) := HB3.out.trans (b4.mono HB3.out.size)
      clear b4 HIX HF3 HC3 HC2 HB3 HB2 q3 ql c0 hrl hrl2
      go_wp2
      go_ret
      exact .inl ⟨HS.out, rfl, HB4.out⟩
  · obtain ⟨x, hx, rfl⟩ : ∃ x, l[j]? = some x ∧ x.plc = p := by
      rw [List.getElem?_map] at hj
      cases hlj : l[j]? with
      | none => rw [hlj] at hj; cases hj
      | some x => rw [hlj] at hj; exact ⟨x, rfl, by simpa using hj⟩
    have HS : Hid (stepFrom 0 (l.map PV.plc) = some ((l.set j (x.at r.1)).map PV.plc)) := by
      show stepFrom _ _ = _
      rw [hs, List.map_set]
      rfl
    have HMM : Hid ((l.set j (x.at r.1)).map (·.mod) = l.map (·.mod)) := by
      show _ = _
      rw [List.map_set]
      apply List.ext_getElem?
      intro i
      rw [List.getElem?_set]
      by_cases hij : j = i
      · subst hij
        rw [if_pos rfl, if_pos (by rw [List.length_map]; exact (List.getElem?_eq_some_iff.1 hx).1), List.getElem?_map, hx]
        rfl
      · rw [if_neg hij]
    have HIN : Hid (ixFrom (fun x : PV => decide (r.1 < x.first)) 0 l = (j : Int)) := by
      have := ix_at (fun x : PV => decide (r.1 < x.first)) l 0 j x hx (decide_eq_true hlt) (fun i y hi hy => decide_eq_false (by
        have := hbef i y.plc hi (by rw [List.getElem?_map, hy]; rfl)
        have e : y.plc.first = y.first := rfl
        omega))
      rw [Nat.zero_add] at this
      exact this
    have hjl : j < l.length := (List.getElem?_eq_some_iff.1 hx).1
    have HX : Hid (l[j]? = some x) := hx
    rw [hr] at HFR
    clear hr hs hrows hL hP hc hok h0 hbef hlt hj hx
    go_enter Tryz.func63, Tryz.ntmps63
    go_wp2_with fail
    refine HFR.out.mono ?_
    rintro e w2 ⟨⟨rv, rfl, hrun⟩, b2⟩
    obtain ⟨ra, rc, rfl, _, hrow⟩ := hrun
    have HB2 : Hid (Below w.heap.size w w2) := b2
    have HC2 : Hid (CellsAt w2 Bp 147 #[.int .i64 K.major, .int .i64 K.minor, ve, .slice va l.length vc]) := HC.out.below b2 HC.out.lt
    rcases hrow with h | ⟨rb, roff, rfl, hrb, hrc⟩
    · cases h
    have c0 : w2.cell? ⟨rb, roff, none⟩ = some (.int .i64 r.1) := hrc 0 r rfl 0 (by omega)
    have hrl : (0 : Int) < ((r :: rs).length : Int) := by simp
    have hrl2 : ¬ ((r :: rs).length = 0) := by simp
    generalize (r :: rs).length = nr at *
    clear b2 HFR q3 ql hrc hrb
    go_upto_region 5 with fail
    have HB3 : Hid (Below w.heap.size w (w2.alloc (.cells #[.int .i64 r.1] 3))) := HB2.out.alloc HB2.out.size _
    have HC3 : Hid (CellsAt (w2.alloc (.cells #[.int .i64 r.1] 3)) Bp 147 #[.int .i64 K.major, .int .i64 K.minor, ve, .slice va l.length vc]) := HC2.out.kept (World.grownBy_alloc _ _ none) (by simp)
    have HF3 : Hid (CellsAt (w2.alloc (.cells #[.int .i64 r.1] 3)) w2.heap.size 3 #[.int .i64 r.1]) := CellsAt.new _ _ _
    generalize (w2.alloc (.cells #[.int .i64 r.1] 3)) = w3 at *
    generalize w2.heap.size = BF at *
    have q3 := CellsAt.cell HC3.out 3
    have ql := CellsAt.lt HC3.out
    simp at q3
    go_wp2_with fail
    refine (HIX.out _ _ _ HB3.out HF3.out.lt (HF3.out.cell 0)).mono ?_
    rintro e w4 ⟨rfl, b4⟩
    rw [HIN.out]
    have HB4 : Hid (Below w.heap.size w w4.drew) := (HB3.out.trans (b4.mono HB3.out.size)).drew
    have HC4 : Hid (CellsAt w4.drew Bp 147 #[.int .i64 K.major, .int .i64 K.minor, ve, .slice va l.length vc]) := (HC3.out.below b4 HC3.out.lt : CellsAt w4 _ _ _)
    have HF4 : Hid (CellsAt w4.drew BF 3 #[.int .i64 r.1]) := (HF3.out.below b4 HF3.out.lt : CellsAt w4 _ _ _)
    clear b4 HIX HF3 HC3 HC2 HB3 HB2 q3 ql c0 hrl hrl2
    obtain ⟨g, gc, ea, -⟩ : ∃ g c9, Value.slice va l.length vc = .slice (some ⟨g, 0, none⟩) l.length c9 ∧ True := by
      rcases HL.out.2 with ⟨_, hn⟩ | ⟨g, c9, cur, e, _⟩
      · omega
      · exact ⟨g, c9, e, trivial⟩
    injection ea with ea1 ea2 ea3
    subst ea1 ea3
    have hjn : (j : Int) < (l.length : Int) := by omega
    have hj0 : ¬ ((j : Int) < 0) := by omega
    go_upto_region 8 with fail
    refine wp_region_noPanic ?_
    refine wp_region_L (S := fun w' => CellsAt w' Bp 147 #[.int .i64 K.major, .int .i64 K.minor, ve, .slice (some ⟨g, 0, none⟩) l.length vc] ∧ CellsAt w' BF 3 #[.int .i64 r.1]) (x := 9) (by kernel_rfl) ?_
    generalize w4.drew = w5 at *
    have hS0 : CellsAt w5 Bp 147 #[.int .i64 K.major, .int .i64 K.minor, ve, .slice (some ⟨g, 0, none⟩) l.length vc] ∧ CellsAt w5 BF 3 #[.int .i64 r.1] := ⟨HC4.out, HF4.out⟩
    refine wpL_take 0 32 (.pointer (some ⟨Bp, 0, none⟩)) rfl (by kernel_rfl) (fun _ _ _ h => h) hS0 rfl rfl (fun w' hSw => by clear hSw; go_simp) ?_
    simp only [List.setIfInBounds_toArray, List.set_cons_zero, List.set_cons_succ]
    refine wpL_take 1 33 (.pointer (some ⟨Bp, 0, none⟩)) rfl (by kernel_rfl) (fun _ _ _ h => h) hS0 rfl rfl (fun w' hSw => by clear hSw; go_simp) ?_
    simp only [List.setIfInBounds_toArray, List.set_cons_zero, List.set_cons_succ]
    refine wpL_take 2 34 (.pointer (some ⟨Bp, 0, none⟩)) rfl (by kernel_rfl) (fun _ _ _ h => h) hS0 rfl rfl (fun w' hSw => by clear hSw; go_simp) ?_
    simp only [List.setIfInBounds_toArray, List.set_cons_zero, List.set_cons_succ]
    refine wpL_take 3 35 (.pointer (some ⟨Bp, 3, none⟩)) rfl (by kernel_rfl) (fun _ _ _ h => h) hS0 rfl rfl (fun w' hSw => by clear hSw; go_simp) ?_
    simp only [List.setIfInBounds_toArray, List.set_cons_zero, List.set_cons_succ]
    refine wpL_take 4 36 (.slice (some ⟨g, 0, none⟩) l.length vc) rfl (by kernel_rfl) (fun _ _ _ h => h) hS0 rfl rfl (fun w' hSw => by have q := CellsAt.cell hSw.1 3; simp at q; clear hSw; go_simp) ?_
    simp only [List.setIfInBounds_toArray, List.set_cons_zero, List.set_cons_succ]
    refine wpL_take 5 37 (.int .i64 (j : Int)) rfl (by kernel_rfl) (fun _ _ _ h => h) hS0 rfl rfl (fun w' hSw => by clear hSw; go_simp) ?_
    simp only [List.setIfInBounds_toArray, List.set_cons_zero, List.set_cons_succ]
    refine wpL_take 6 38 (.int .i64 r.1) rfl (by kernel_rfl) (fun _ _ _ h => h) hS0 rfl rfl (fun w' hSw => by have q := CellsAt.cell hSw.2 0; simp at q; clear hSw; go_simp) ?_
    simp only [List.setIfInBounds_toArray, List.set_cons_zero, List.set_cons_succ]
    refine wpL_take 7 39 (.pointer (some ⟨g, j * 8, none⟩)) rfl (by kernel_rfl) (fun _ _ _ h => h) hS0 rfl rfl (fun w' hSw => by clear hSw; go_simp) ?_
    simp only [List.setIfInBounds_toArray, List.set_cons_zero, List.set_cons_succ]
    refine wpL_take 8 40 (.pointer (some ⟨g, j * 8 + 7, none⟩)) rfl (by kernel_rfl) (fun _ _ _ h => h) hS0 rfl rfl (fun w' hSw => by clear hSw; go_simp) ?_
    simp only [List.setIfInBounds_toArray, List.set_cons_zero, List.set_cons_succ]
    clear hS0
    have hL5 := own_below HL.out HB4.out
    have HL5 : Hid (w5.ownsRow base 57 8 (.slice (some ⟨g, 0, none⟩) l.length vc) l.length (l.flatMap pvC)) := hL5
    have HP5 : Hid (∀ x ∈ l, OwnsPlc base w5 x) := fun x hx => (HP.out x hx).below HB4.out
    have e7 := hL5.cellAt (j * 8 + 7) (by omega)
    have f7 := hL5.frozenAt (j * 8 + 7)
    have e7' : ∃ u, w5.cell? ⟨g, j * 8 + 7, none⟩ = some u := ⟨_, e7.trans (List.getElem?_eq_getElem (by rw [hL5.1]; omega))⟩
    obtain ⟨u7, e8⟩ := e7'
    clear e7 hL5
    refine wpL_last (x := 9) rfl (by kernel_rfl) (by kernel_rfl) (fun K hK => ?_)
    go_simp
    refine hK.out _ _ ?_
    refine NoPanic.normal ?_
    clear hK K e8 f7
    obtain ⟨hO9, hG9⟩ := own_first HL5.out HX.out r.1
    have HO9 : Hid _ := hO9
    have HG9 : Hid _ := hG9
    clear hO9 hG9
    have HC9 : Hid (CellsAt (w5.setCell ⟨g, j * 8 + 7, none⟩ (.int .i64 r.1)) Bp 147 #[.int .i64 K.major, .int .i64 K.minor, ve, .slice (some ⟨g, 0, none⟩) l.length vc]) := cells_beside HC4.out HL5.out (by decide) HG9.out
    have HP9 : Hid (∀ y ∈ l.set j (x.at r.1), OwnsPlc base (w5.setCell ⟨g, j * 8 + 7, none⟩ (.int .i64 r.1)) y) := fun y hy => by
      rcases List.mem_or_eq_of_mem_set hy with hy | rfl
      · exact (HP5.out y hy).beside HL5.out HG9.out
      · have := (HP5.out x (List.mem_of_getElem? HX.out)).beside HL5.out HG9.out
        exact ⟨this.1, this.2.1, this.2.2⟩
    go_wp2
    go_ret
    refine .inr ⟨l.set j (x.at r.1), HS.out, HMM.out, rfl, HC9.out, ?_, HP9.out, w5, HB4.out, HG9.out⟩
    rw [List.length_set]
    exact HO9.out

end Go.Proofs.YtlpnfbpgnfappaaGreat

/- The contracts of package compact's packed, and of what it is handed. -/
namespace Go.Proofs.YtlpnfbpgnfappaaGreat
open Go.RowKit Go.PlainAid Go.Lib

set_option maxRecDepth 100000

theorem results_ctt_row {P : Program} {fn : Func} {p u x : Tmp} {ty : TypeId} (h : fn.results = #[.cell p ty, .tmp u, .tmp x]) (tmps : Array Value) (w : World) (g : Nat) (t : TypeId) (cs : Array Value) (fr : Nat × Nat) (d : TypeDesc)
    (hp : tmps.getD p undef = .pointer (some ⟨g, 0, none⟩)) (hg : w.heap[g]? = some (.cells cs t fr))
    (hu : P.underlying ty = some d) (hd : (match d with | .struct _ | .array _ _ => true | _ => false) = true) (hi : (P.info? ty).map (·.size) = some cs.size) :
    (results fn tmps).run P w = .ok (.tuple #[.agg cs, tmps.getD u undef, tmps.getD x undef]) w := by
  have hp' : tmps[p]?.getD undef = .pointer (some ⟨g, 0, none⟩) := by simpa using hp
  simp [results, h, hp', asAddr, run_loadVar_row w g t ty cs fr d hg hu hd hi]

theorem fits_mods {l l' : List PV} (h : l'.map (·.mod) = l.map (·.mod)) (hf : ∀ x ∈ l, x.mod.fits) : ∀ x ∈ l', x.mod.fits := fun x hx => by
  have : x.mod ∈ l'.map (·.mod) := List.mem_map_of_mem hx
  rw [h] at this
  obtain ⟨y, hy, e⟩ := List.mem_map.1 this
  rw [← e]
  exact hf y hy
theorem mods_plc {l l' : List PV} (h : l'.map PV.plc = l.map PV.plc) : l'.map (·.mod) = l.map (·.mod) := by
  have := congrArg (List.map fun p : Plc => p.mod) h
  rw [List.map_map, List.map_map] at this
  exact this
theorem rg_lens {K : Ker} {l : List PV} (h : chkRg K (l.map PV.plc) = 0) : K.exps.length ≤ 255 ∧ l.length ≤ 255 ∧ (∀ x ∈ l, x.mod.exps.length ≤ 255 ∧ x.mod.imps.length ≤ 255 ∧ x.mod.pats.length ≤ 255) ∧ chkReg (l.map PV.plc) = 0 := by
  obtain ⟨h1, h2, _⟩ := chkLink_zero (chkRg_zero h).1
  have h3 := (chkKer_zero h1).1
  obtain ⟨h4, h5⟩ := reg_lens h2
  exact ⟨by omega, by omega, h5, h2⟩

/-- A registry of one's own, in a row of four cells. -/
def PackAt (base Bp : Nat) (W : World) (t : TypeId) (K : Ker) (ve vl : Value) (l : List PV) : Prop :=
  CellsAt W Bp t #[.int .i64 K.major, .int .i64 K.minor, ve, vl] ∧ W.ownsRow base 129 2 ve K.exps.length (K.exps.flatMap expC) ∧ W.ownsRow base 57 8 vl l.length (l.flatMap pvC) ∧ ∀ x ∈ l, OwnsPlc base W x

set_option maxHeartbeats 16000000 in
theorem packed_any (K : Ker) (l : List PV) (v : Value) (w : World) (hreg : IsReg w.heap.size w v K l) (hf : K.fits) (hfit : ∀ x ∈ l, x.mod.fits) (Kf : FuncId) (cap : Value) (hK : ∀ W x, Sem.run Tryz.prog (callFunc Kf #[x, cap]) W = .ok (.enter Kf #[x, cap]) W) (m : Nat) (hm : m ≤ w.heap.size) (R : List Plc → Prop) (Q1 : World → Prop) (hq1 : ∀ W W' B, w.heap.size ≤ B → W.grownBy W' (some B) → Q1 W → Q1 W')
    (hdo : chkRg K (l.map PV.plc) = 0 → ∀ (W : World) (Bp : Nat) (ve vl : Value) (l0 : List PV), Below w.heap.size w W → w.heap.size ≤ Bp → PackAt w.heap.size Bp W 147 K ve vl l0 → l0.map PV.plc = l.map PV.plc → (∀ x ∈ l0, x.mod.fits) →
      Calls Tryz.prog Kf #[.pointer (some ⟨Bp, 0, none⟩), cap] W fun e w' => e = .returned (.tuple #[]) ∧ (∃ l' : List PV, R (l'.map PV.plc) ∧ l'.map (·.mod) = l0.map (·.mod) ∧ PackAt w.heap.size Bp w' 147 K ve vl l' ∧ (∀ B c, B < W.heap.size → w.heap.size ≤ B → CellsAt W B 27 c → CellsAt w' B 27 c)) ∧ Q1 w' ∧ Below m W w') :
    Calls Tryz.prog 61 #[v, .func (.func Kf) #[] #[cap]] w fun e w' =>
      (chkRg K (l.map PV.plc) ≠ 0 ∧ e = .returned (.tuple #[.agg #[.int .i64 0, .int .i64 0, .slice none 0 0, .slice none 0 0], .int .i64 (chkRg K (l.map PV.plc))]) ∧ Below w.heap.size w w') ∨
      (chkRg K (l.map PV.plc) = 0 ∧ ∃ (v' : Value) (l' : List PV), e = .returned (.tuple #[v', .int .i64 0]) ∧ R (l'.map PV.plc) ∧ l'.map (·.mod) = l.map (·.mod) ∧ OwnsReg w.heap.size w' v' K l' ∧ Q1 w' ∧ Below m w w') := by
  have HCK : Hid (∀ W, Below w.heap.size w W → Calls Tryz.prog 68 #[v] W fun e w' => e = .returned (.int .i64 (chkRg K (l.map PV.plc))) ∧ Below W.heap.size W w') := fun W hb => regCheck_any K l v W ((hreg.below hb).more hb.size) hf hfit
  have HCP : Hid (chkRg K (l.map PV.plc) = 0 → ∀ W, Below w.heap.size w W → Calls Tryz.prog 91 #[v] W fun e w' => (∃ v' l', e = .returned v' ∧ l'.map PV.plc = l.map PV.plc ∧ OwnsReg W.heap.size w' v' K l') ∧ Below W.heap.size W w') := fun h W hb => by
    obtain ⟨h1, h2, h3, _⟩ := rg_lens h
    exact copyReg_any K l v W ((hreg.below hb).more hb.size) h1 h2 h3
  have HDO : Hid _ := hdo
  obtain ⟨ve, vl, rfl, hE, hL⟩ := hreg
  obtain ⟨qe, je, rfl, -, -⟩ := hE
  obtain ⟨⟨a, cap', rfl, -, -⟩, -⟩ := hL
  generalize hcr : chkRg K (l.map PV.plc) = cr at *
  generalize K.exps.length = lk at *
  have HB1 : Hid (Below w.heap.size w ((w.alloc (.cells #[.int .i64 K.major, .int .i64 K.minor, .slice qe lk je, .slice a l.length cap'] 27)).alloc (.cells #[.int .i64 0, .int .i64 0, .slice none 0 0, .slice none 0 0] 27))) := ((Below.refl _ _).alloc (Nat.le_refl _) _).alloc (by simp) _
  have HC1 : Hid (CellsAt ((w.alloc (.cells #[.int .i64 K.major, .int .i64 K.minor, .slice qe lk je, .slice a l.length cap'] 27)).alloc (.cells #[.int .i64 0, .int .i64 0, .slice none 0 0, .slice none 0 0] 27)) w.heap.size 27 #[.int .i64 K.major, .int .i64 K.minor, .slice qe lk je, .slice a l.length cap']) := (CellsAt.new _ _ _).kept (World.grownBy_alloc _ _ none) (by simp)
  have HZ1 : Hid (CellsAt ((w.alloc (.cells #[.int .i64 K.major, .int .i64 K.minor, .slice qe lk je, .slice a l.length cap'] 27)).alloc (.cells #[.int .i64 0, .int .i64 0, .slice none 0 0, .slice none 0 0] 27)) (w.heap.size + 1) 27 #[.int .i64 0, .int .i64 0, .slice none 0 0, .slice none 0 0]) := by
    have := CellsAt.new (w.alloc (.cells #[.int .i64 K.major, .int .i64 K.minor, .slice qe lk je, .slice a l.length cap'] 27)) 27 #[.int .i64 0, .int .i64 0, .slice none 0 0, .slice none 0 0]
    rw [World.size_alloc] at this
    exact this
  go_enter Tryz.func61, Tryz.ntmps61
  go_wp2_with fail
  refine (HCK.out _ HB1.out).mono ?_
  generalize ((w.alloc (.cells #[.int .i64 K.major, .int .i64 K.minor, .slice qe lk je, .slice a l.length cap'] 27)).alloc (.cells #[.int .i64 0, .int .i64 0, .slice none 0 0, .slice none 0 0] 27)) = w1 at *
  rintro e w2 ⟨rfl, b2⟩
  have HB2 : Hid (Below w.heap.size w w2) := HB1.out.trans (b2.mono HB1.out.size)
  have HC2 : Hid (CellsAt w2 w.heap.size 27 #[.int .i64 K.major, .int .i64 K.minor, .slice qe lk je, .slice a l.length cap']) := HC1.out.below b2 HC1.out.lt
  have HZ2 : Hid (CellsAt w2 (w.heap.size + 1) 27 #[.int .i64 0, .int .i64 0, .slice none 0 0, .slice none 0 0]) := HZ1.out.below b2 HZ1.out.lt
  clear b2 HB1 HC1 HZ1 HCK
  by_cases hcr0 : cr ≠ 0
  · have h' : (cr != 0) = true := by simpa using hcr0
    have HN : Hid (cr ≠ 0) := hcr0
    have z0 := CellsAt.cell HZ2.out 0
    have z1 := CellsAt.cell HZ2.out 1
    have z2 := CellsAt.cell HZ2.out 2
    have z3 := CellsAt.cell HZ2.out 3
    have f0 := CellsAt.frozen HZ2.out 0
    have f1 := CellsAt.frozen HZ2.out 1
    have f2 := CellsAt.frozen HZ2.out 2
    have f3 := CellsAt.frozen HZ2.out 3
    have lz := CellsAt.lt HZ2.out
    simp at z0 z1 z2 z3
    clear hcr0 HCP HDO HC2 hdo hcr hfit hf
    go_wp2
    have hZ9 := sets4 HZ2.out (.int .i64 0) (.int .i64 0) (.slice none 0 0) (.slice none 0 0)
    have hG9 := sets4_grown w2 (w.heap.size + 1) (.int .i64 0) (.int .i64 0) (.slice none 0 0) (.slice none 0 0)
    refine bodyPost_ret (results_cell_tmp_row rfl _ _ _ _ _ _ _ rfl hZ9 Tryz.underlying27 rfl (by kernel_rfl)) rfl ?_
    exact .inl ⟨HN.out, rfl, HB2.out.grown hG9 HB2.out.size (fun q hq => by obtain rfl := Option.some.inj hq; exact Nat.le_succ _)⟩
  · obtain rfl : cr = 0 := Decidable.not_not.1 hcr0
    have HCC : Hid _ := HCP.out (by first | rfl | trivial)
    have HDD : Hid _ := HDO.out (by first | rfl | trivial)
    have c0 := CellsAt.cell HC2.out 0
    have c1 := CellsAt.cell HC2.out 1
    have c2 := CellsAt.cell HC2.out 2
    have c3 := CellsAt.cell HC2.out 3
    have lc := CellsAt.lt HC2.out
    simp at c0 c1 c2 c3
    clear HCP HDO hdo hcr0
    go_wp2_with fail
    refine (HCC.out _ HB2.out).mono ?_
    rintro e w3 ⟨⟨v3, l0, rfl, hpl, ho⟩, b3⟩
    obtain ⟨ve3, vl3, rfl, oe3, ol3, op3⟩ := ho
    obtain ⟨ea, ec, rfl⟩ := own_form oe3
    obtain ⟨pa, pc, rfl⟩ := own_form ol3
    have LB : w.heap.size ≤ w2.heap.size := HB2.out.size
    have LZ : w.heap.size + 1 < w3.heap.size := Nat.lt_of_lt_of_le HZ2.out.lt b3.size
    have hB4 : Below w.heap.size w (w3.alloc (.cells #[.int .i64 K.major, .int .i64 K.minor, .slice ea K.exps.length ec, .slice pa l0.length pc] 147)) := by
      have := HB2.out.trans (b3.mono HB2.out.size)
      exact this.alloc this.size _
    have HB4 : Hid (Below w.heap.size w (w3.alloc (.cells #[.int .i64 K.major, .int .i64 K.minor, .slice ea K.exps.length ec, .slice pa l0.length pc] 147))) := hB4
    have HZ4 : Hid (CellsAt (w3.alloc (.cells #[.int .i64 K.major, .int .i64 K.minor, .slice ea K.exps.length ec, .slice pa l0.length pc] 147)) (w.heap.size + 1) 27 #[.int .i64 0, .int .i64 0, .slice none 0 0, .slice none 0 0]) := (HZ2.out.below b3 HZ2.out.lt).kept (World.grownBy_alloc _ _ none) (by simp)
    have HP4 : Hid (PackAt w.heap.size w3.heap.size (w3.alloc (.cells #[.int .i64 K.major, .int .i64 K.minor, .slice ea K.exps.length ec, .slice pa l0.length pc] 147)) 147 K (.slice ea K.exps.length ec) (.slice pa l0.length pc) l0) := ⟨CellsAt.new _ _ _, (own_down oe3 LB).alloc _, (own_down ol3 LB).alloc _, fun x hx => ((op3 x hx).lower LB).below ((Below.refl _ _).alloc (Nat.le_refl _) _)⟩
    have HPL : Hid (l0.map PV.plc = l.map PV.plc) := hpl
    have HFT : Hid (∀ x ∈ l0, x.mod.fits) := fits_mods (mods_plc hpl) hfit
    clear b3 HB2 HZ2 HC2 HCC oe3 ol3 op3 hpl c0 c1 c2 c3 lc hB4 hfit
    generalize hkl : K.exps.length = ke at *
    have LW3 : w.heap.size ≤ w3.heap.size := by omega
    go_wp2_with fail
    generalize (w3.alloc (.cells #[.int .i64 K.major, .int .i64 K.minor, .slice ea ke ec, .slice pa l0.length pc] 147)) = w4 at *
    generalize w3.heap.size = Bp at *
    refine (HDD.out w4 Bp _ _ l0 HB4.out LW3 HP4.out HPL.out HFT.out).mono ?_
    rintro e w5 ⟨rfl, ⟨l', hR, hmm, hp5, hkeep⟩, hQ, hb5⟩
    have hz5 := hkeep _ _ HZ4.out.lt (Nat.le_succ _) HZ4.out
    have HZ5 : Hid (CellsAt w5 (w.heap.size + 1) 27 #[.int .i64 0, .int .i64 0, .slice none 0 0, .slice none 0 0]) := hz5
    have HB5 : Hid (Below m w w5) := (HB4.out.mono hm).trans (hb5.mono (Nat.le_refl _))
    have HR5 : Hid (R (l'.map PV.plc)) := hR
    have HM5 : Hid (l'.map (·.mod) = l.map (·.mod)) := hmm.trans (mods_plc HPL.out)
    have HQ5 : Hid (Q1 w5) := hQ
    unfold PackAt at hp5
    rw [hkl] at hp5
    have HP5 : Hid _ := hp5
    have ll : l'.length = l0.length := by have := congrArg List.length hmm; simpa using this
    have p0 := CellsAt.cell hp5.1 0
    have p1 := CellsAt.cell hp5.1 1
    have p2 := CellsAt.cell hp5.1 2
    have p3 := CellsAt.cell hp5.1 3
    have lp := CellsAt.lt hp5.1
    have z0 := CellsAt.cell hz5 0
    have z1 := CellsAt.cell hz5 1
    have z2 := CellsAt.cell hz5 2
    have z3 := CellsAt.cell hz5 3
    have f0 := CellsAt.frozen hz5 0
    have f1 := CellsAt.frozen hz5 1
    have f2 := CellsAt.frozen hz5 2
    have f3 := CellsAt.frozen hz5 3
    have lz := CellsAt.lt hz5
    simp at p0 p1 p2 p3 z0 z1 z2 z3
    clear HDD HB4 HZ4 HP4 hkeep hz5 hb5 hR hmm hQ hp5 hcr
    go_wp2
    have hZ9 := sets4 HZ5.out (.int .i64 K.major) (.int .i64 K.minor) (.slice ea ke ec) (.slice pa l0.length pc)
    have hG9 := sets4_grown w5 (w.heap.size + 1) (.int .i64 K.major) (.int .i64 K.minor) (.slice ea ke ec) (.slice pa l0.length pc)
    refine bodyPost_ret (results_cell_tmp_row rfl _ _ _ _ _ _ _ rfl hZ9 Tryz.underlying27 rfl (by kernel_rfl)) rfl ?_
    refine ⟨_, rfl, l', HR5.out, HM5.out, ⟨_, _, rfl, ?_, ?_, fun x hx => (HP5.out.2.2.2 x hx).beCell HZ5.out (by decide) (by decide) (by decide) hG9⟩, hq1 _ _ _ (Nat.le_succ _) hG9 HQ5.out, HB5.out.grown hG9 (Nat.le_trans hm (by have := HZ5.out.lt; omega)) (fun q hq => by obtain rfl := Option.some.inj hq; omega)⟩
    · rw [hkl]
      exact HP5.out.2.1.kept hG9 (.inr (own_ne_cells HP5.out.2.1 HZ5.out (by decide)))
    · exact HP5.out.2.2.1.kept hG9 (.inr (own_ne_cells HP5.out.2.2.1 HZ5.out (by decide)))

end Go.Proofs.YtlpnfbpgnfappaaGreat

/- The contracts of what package compact hands to packed. -/
namespace Go.Proofs.YtlpnfbpgnfappaaGreat
open Go.RowKit Go.PlainAid Go.Lib

set_option maxRecDepth 100000

/-- A step: what comes, and whether there is one. -/
def stepRes (L : List Plc) : List Plc × Bool := match stepFrom 0 L with | none => (L, false) | some L' => (L', true)

theorem PackAt.below {base Bp : Nat} {W W' : World} {t : TypeId} {K : Ker} {ve vl : Value} {l : List PV} (h : PackAt base Bp W t K ve vl l) (hb : Below W.heap.size W W') : PackAt base Bp W' t K ve vl l :=
  ⟨h.1.below hb h.1.lt, own_below h.2.1 hb, own_below h.2.2.1 hb, fun x hx => (h.2.2.2 x hx).below hb⟩
theorem PackAt.beCell {base Bp B : Nat} {W W' : World} {t s : TypeId} {K : Ker} {ve vl : Value} {l : List PV} {cs : Array Value} (h : PackAt base Bp W t K ve vl l) (hc : CellsAt W B s cs) (hne : Bp ≠ B) (h1 : 129 ≠ s) (h2 : 106 ≠ s) (h3 : 113 ≠ s) (h4 : 57 ≠ s) (hg : W.grownBy W' (some B)) : PackAt base Bp W' t K ve vl l :=
  ⟨h.1.kept hg (by intro e; exact hne (Option.some.inj e)), h.2.1.kept hg (.inr (own_ne_cells h.2.1 hc h1)), h.2.2.1.kept hg (.inr (own_ne_cells h.2.2.1 hc h4)), fun x hx => (h.2.2.2 x hx).beCell hc h1 h2 h3 hg⟩

/-- A step, of a registry of one's own. -/
theorem cpStep_pack (K : Ker) (l : List PV) (ve vl : Value) (base Bp : Nat) (w : World) (hp : PackAt base Bp w 147 K ve vl l) (hfit : ∀ x ∈ l, x.mod.fits) (h0 : chkReg (l.map PV.plc) = 0) :
    Calls Tryz.prog 63 #[.pointer (some ⟨Bp, 0, none⟩)] w fun e w' => ∃ l' : List PV, e = .returned (.bool (stepRes (l.map PV.plc)).2) ∧ l'.map PV.plc = (stepRes (l.map PV.plc)).1 ∧ l'.map (·.mod) = l.map (·.mod) ∧ PackAt base Bp w' 147 K ve vl l' ∧ Moved w vl w' := by
  refine (cpStep_any K l ve vl base Bp w hp.1 hp.2.2.1 hp.2.2.2 hfit h0).mono ?_
  rintro e w' (⟨hs, rfl, hb⟩ | ⟨l', hs, hm, rfl, hc, hL, hP, hmv⟩)
  · refine ⟨l, by unfold stepRes; rw [hs], by unfold stepRes; rw [hs], rfl, hp.below hb, w', hb, ?_⟩
    exact ⟨rfl, rfl, rfl, Nat.le_refl _, fun k _ _ => rfl⟩
  · refine ⟨l', by unfold stepRes; rw [hs], by unfold stepRes; rw [hs], hm, ?_, hmv⟩
    obtain ⟨w1, hb, hg⟩ := hmv
    exact ⟨hc, own_beside (own_below hp.2.1 hb) (own_below hp.2.2.1 hb) (by decide) hg, hL, hP⟩
theorem Moved.cells {w w' : World} {vl : Value} {n base : Nat} {xs : List Value} (h : Moved w vl w') (hL : w.ownsRow base 57 8 vl n xs) {B : Nat} {t : TypeId} {cs : Array Value} (hc : CellsAt w B t cs) (ht : 57 ≠ t) : CellsAt w' B t cs := by
  obtain ⟨w1, hb, hg⟩ := h
  exact cells_beside (hc.below hb hc.lt) (own_below hL hb) ht hg
theorem Moved.under {w w' : World} {vl : Value} {n base m : Nat} {xs : List Value} (h : Moved w vl w') (hL : w.ownsRow base 57 8 vl n xs) (hm : m ≤ base) (hw : m ≤ w.heap.size) : Below m w w' := by
  obtain ⟨w1, hb, hg⟩ := h
  exact (hb.mono hw).grown hg (Nat.le_trans hw hb.size) (fun q hq => Nat.le_trans hm (own_block hL q hq))

set_option maxHeartbeats 8000000 in
theorem cpStepF_any (K : Ker) (l : List PV) (ve vl : Value) (base Bp Bc m : Nat) (b0 : Bool) (w : World) (hp : PackAt base Bp w 147 K ve vl l) (hfit : ∀ x ∈ l, x.mod.fits) (h0 : chkReg (l.map PV.plc) = 0) (hc : CellsAt w Bc 4 #[.bool b0]) (hcb : Bc < base) (hbp : base ≤ Bp) (hm : m ≤ Bc) :
    Calls Tryz.prog 78 #[.pointer (some ⟨Bp, 0, none⟩), .pointer (some ⟨Bc, 0, none⟩)] w fun e w' => e = .returned (.tuple #[]) ∧ (∃ l' : List PV, l'.map PV.plc = (stepRes (l.map PV.plc)).1 ∧ l'.map (·.mod) = l.map (·.mod) ∧ PackAt base Bp w' 147 K ve vl l' ∧ (∀ B c, B < w.heap.size → base ≤ B → CellsAt w B 27 c → CellsAt w' B 27 c)) ∧ CellsAt w' Bc 4 #[.bool (stepRes (l.map PV.plc)).2] ∧ Below m w w' := by
  have HS : Hid (Calls Tryz.prog 63 #[.pointer (some ⟨Bp, 0, none⟩)] w fun e w' => ∃ l' : List PV, e = .returned (.bool (stepRes (l.map PV.plc)).2) ∧ l'.map PV.plc = (stepRes (l.map PV.plc)).1 ∧ l'.map (·.mod) = l.map (·.mod) ∧ PackAt base Bp w' 147 K ve vl l' ∧ Moved w vl w') := cpStep_pack K l ve vl base Bp w hp hfit h0
  have HP : Hid (PackAt base Bp w 147 K ve vl l) := hp
  have HC : Hid (CellsAt w Bc 4 #[.bool b0]) := hc
  clear hp hc hfit h0
  generalize stepRes (l.map PV.plc) = SR at *
  obtain ⟨SL, sb⟩ := SR
  dsimp only at *
  go_enter Tryz.func78, Tryz.ntmps78
  go_wp2_with fail
  refine HS.out.mono ?_
  rintro e w2 ⟨l', rfl, hpl, hmm, hp2, hmv⟩
  have HC2 : Hid (CellsAt w2 Bc 4 #[.bool b0]) := hmv.cells HP.out.2.2.1 HC.out (by decide)
  have HM2 : Hid (Moved w vl w2) := hmv
  have HP2 : Hid (PackAt base Bp w2 147 K ve vl l') := hp2
  have c0 := CellsAt.cell HC2.out 0
  have cf := CellsAt.frozen HC2.out 0
  have cl := CellsAt.lt HC2.out
  have cl1 := CellsAt.lt HC.out
  simp at c0
  clear HS hmv hp2
  go_wp2
  have hg := grown_set w2 Bc 0 (.bool sb)
  have hcs := CellsAt.set 0 (.bool sb) HC2.out
  simp only [List.setIfInBounds_toArray, List.set_cons_zero] at hcs
  go_end0
  refine ⟨rfl, ⟨l', hpl, hmm, HP2.out.beCell HC2.out (by omega) (by decide) (by decide) (by decide) (by decide) hg, fun B c h1 h2 h3 => (HM2.out.cells HP.out.2.2.1 h3 (by decide)).kept hg (by intro e; have := Option.some.inj e; omega)⟩, hcs, ?_⟩
  exact (HM2.out.under HP.out.2.2.1 (by omega) (by omega)).setCell (by simp; omega) _

theorem off_len : ∀ (L : List Plc) (e : Int), offFrom e L ≤ L.length
  | [], _ => Nat.le_refl _
  | p :: r, e => by
    have := off_len r (e + szM p.mod)
    show (if p.first = e then 0 else 1) + offFrom _ r ≤ r.length + 1
    split <;> omega

set_option maxHeartbeats 8000000 in
theorem cpPackF_any (K : Ker) (l : List PV) (ve vl : Value) (base Bp Bc m : Nat) (w : World) (hp : PackAt base Bp w 147 K ve vl l) (hfit : ∀ x ∈ l, x.mod.fits) (h0 : chkRg K (l.map PV.plc) = 0) (hc : CellsAt w Bc 3 #[.int .i64 0]) (hcb : Bc < base) (hbp : base ≤ Bp) (hm : m ≤ Bc) :
    Calls Tryz.prog 62 #[.pointer (some ⟨Bp, 0, none⟩), .pointer (some ⟨Bc, 0, none⟩)] w fun e w' => e = .returned (.tuple #[]) ∧ (∃ l' : List PV, l'.map PV.plc = packFrom 0 (l.map PV.plc) ∧ l'.map (·.mod) = l.map (·.mod) ∧ PackAt base Bp w' 147 K ve vl l' ∧ (∀ B c, B < w.heap.size → base ≤ B → CellsAt w B 27 c → CellsAt w' B 27 c)) ∧ CellsAt w' Bc 3 #[.int .i64 (offFrom 0 (l.map PV.plc) : Int)] ∧ Below m w w' := by
  have HST : Hid (∀ (l1 : List PV) W, PackAt base Bp W 147 K ve vl l1 → (∀ x ∈ l1, x.mod.fits) → chkReg (l1.map PV.plc) = 0 → Calls Tryz.prog 63 #[.pointer (some ⟨Bp, 0, none⟩)] W fun e w' => ∃ l' : List PV, e = .returned (.bool (stepRes (l1.map PV.plc)).2) ∧ l'.map PV.plc = (stepRes (l1.map PV.plc)).1 ∧ l'.map (·.mod) = l1.map (·.mod) ∧ PackAt base Bp w' 147 K ve vl l' ∧ Moved W vl w') := fun l1 W h1 h2 h3 => cpStep_pack K l1 ve vl base Bp W h1 h2 h3
  have HSN : Hid (∀ L L' : List Plc, chkRg K L = 0 → stepFrom 0 L = some L' → chkRg K L' = 0) := fun L L' h1 h2 => step_right h1 h2
  have hlen : l.length ≤ 255 := (rg_lens h0).2.1
  have hol := off_len (l.map PV.plc) 0
  rw [List.length_map] at hol
  have HFIT : Hid (∀ x ∈ l, x.mod.fits) := hfit
  have HLEN : Hid (∀ l1 : List PV, chkRg K (l1.map PV.plc) = 0 → chkReg (l1.map PV.plc) = 0) := fun l1 h => (rg_lens h).2.2.2
  have HP : Hid (PackAt base Bp w 147 K ve vl l) := hp
  have HC : Hid (CellsAt w Bc 3 #[.int .i64 ((0 : Nat) : Int)]) := hc
  have H0 : Hid (chkRg K (l.map PV.plc) = 0) := h0
  have hbc : Bc < w.heap.size := hc.lt
  have HOF : Hid (offFrom 0 (l.map PV.plc) ≤ 255) := by show _ ≤ _; omega
  clear hp hc hfit h0 hol
  go_enter Tryz.func62, Tryz.ntmps62
  go_wp2_with fail
  go_loopg [] (offFrom 0 (l.map PV.plc)) (fun gk wr => ∃ (l1 : List PV) (many : Nat), Hid (gk = offFrom 0 (l1.map PV.plc)) ∧ Hid (gk + many = offFrom 0 (l.map PV.plc)) ∧ Hid (packFrom 0 (l1.map PV.plc) = packFrom 0 (l.map PV.plc)) ∧ Hid (l1.map (·.mod) = l.map (·.mod)) ∧ Hid (chkRg K (l1.map PV.plc) = 0) ∧ Hid (PackAt base Bp wr 147 K ve vl l1) ∧ Hid (CellsAt wr Bc 3 #[.int .i64 (many : Int)]) ∧ Hid (∀ B c, B < w.heap.size → base ≤ B → CellsAt w B 27 c → CellsAt wr B 27 c) ∧ Hid (Below m w wr))
  case atStart => exact ⟨l, 0, (rfl : _ = _), (rfl : _ = _), (rfl : _ = _), (rfl : _ = _), H0, HP, HC, fun B c _ _ h => h, Below.refl _ _⟩
  case round =>
    obtain ⟨l1, many, HGK, HGM, HPK, HMM, HR1, HP1, HC1, HKP, HB1⟩ := hrel
    clear HP HC H0
    go_wp2_with fail
    refine (HST.out l1 wr HP1.out (fits_mods HMM.out HFIT.out) (HLEN.out l1 HR1.out)).mono ?_
    rintro e w2 ⟨l', rfl, hpl, hmm, hp2, hmv⟩
    have HC2 : Hid (CellsAt w2 Bc 3 #[.int .i64 (many : Int)]) := hmv.cells HP1.out.2.2.1 HC1.out (by decide)
    have HK2 : Hid (∀ B c, B < w.heap.size → base ≤ B → CellsAt w B 27 c → CellsAt w2 B 27 c) := fun B c h1 h2 h3 => hmv.cells HP1.out.2.2.1 (HKP.out B c h1 h2 h3) (by decide)
    have hu := hmv.under (m := m) HP1.out.2.2.1 (by omega) (by have := HC1.out.lt; omega)
    have HB2 : Hid (Below m w w2) := HB1.out.trans hu
    have HP2 : Hid (PackAt base Bp w2 147 K ve vl l') := hp2
    have HM2 : Hid (l'.map (·.mod) = l.map (·.mod)) := hmm.trans HMM.out
    clear hmv hp2 hmm HC1 HKP HB1 hu
    cases hs : stepFrom 0 (l1.map PV.plc) with
    | none =>
      have hr : stepRes (l1.map PV.plc) = (l1.map PV.plc, false) := by unfold stepRes; rw [hs]
      obtain ⟨n1, n2⟩ := step_none hs
      rw [hr] at hpl ⊢
      have HPL : Hid (l'.map PV.plc = packFrom 0 (l.map PV.plc)) := hpl.trans (n1.symm.trans HPK.out)
      have HMN : Hid (many = offFrom 0 (l.map PV.plc)) := by
        have h1 := HGK.out
        have h2 := HGM.out
        show many = _
        omega
      clear hs hr n1 n2 hpl HGK HGM HPK HST HSN HLEN HFIT
      go_wp2
      go_end0
      refine ⟨rfl, ⟨l', HPL.out, HM2.out, HP2.out, HK2.out⟩, ?_, HB2.out⟩
      rw [← HMN.out]
      exact HC2.out
    | some L' =>
      have hr : stepRes (l1.map PV.plc) = (L', true) := by unfold stepRes; rw [hs]
      obtain ⟨n1, n2, _⟩ := step_some hs
      rw [hr] at hpl ⊢
      dsimp only at hpl
      have HR2 : Hid (chkRg K (l'.map PV.plc) = 0) := by
        show chkRg _ _ = 0
        rw [hpl]
        exact HSN.out _ _ HR1.out hs
      have HPL : Hid (packFrom 0 (l'.map PV.plc) = packFrom 0 (l.map PV.plc)) := by
        show packFrom _ _ = _
        rw [hpl, n1]
        exact HPK.out
      have HO2 : Hid (offFrom 0 (l1.map PV.plc) = offFrom 0 (l'.map PV.plc) + 1) := by
        show _ = _
        rw [hpl]
        exact n2
      have hmb : many ≤ 255 := by
        have h2 := HGM.out
        have h3 := HOF.out
        omega
      have ew : wrap64 ((many : Int) + 1) = (many : Int) + 1 := by unfold wrap64; omega
      have EW2 : Hid ((many : Int) + 1 = ((many + 1 : Nat) : Int)) := by show _ = _; omega
      have c0 := CellsAt.cell HC2.out 0
      have cf := CellsAt.frozen HC2.out 0
      have cl := CellsAt.lt HC2.out
      simp at c0
      clear hs hr n1 n2 hpl
      go_wp2_with fail
      have hg := grown_set w2 Bc 0 (.int .i64 ((many : Int) + 1))
      have hcs := CellsAt.set 0 (.int .i64 ((many : Int) + 1)) HC2.out
      simp only [List.setIfInBounds_toArray, List.set_cons_zero] at hcs
      have HC9 : Hid (CellsAt (w2.setCell ⟨Bc, 0, none⟩ (.int .i64 ((many : Int) + 1))) Bc 3 #[.int .i64 ((many + 1 : Nat) : Int)]) := by
        rw [← EW2.out]
        exact hcs
      have HP9 : Hid (PackAt base Bp (w2.setCell ⟨Bc, 0, none⟩ (.int .i64 ((many : Int) + 1))) 147 K ve vl l') := HP2.out.beCell HC2.out (by omega) (by decide) (by decide) (by decide) (by decide) hg
      have HK9 : Hid (∀ B c, B < w.heap.size → base ≤ B → CellsAt w B 27 c → CellsAt (w2.setCell ⟨Bc, 0, none⟩ (.int .i64 ((many : Int) + 1))) B 27 c) := fun B c h1 h2 h3 => (HK2.out B c h1 h2 h3).kept hg (by intro e; have := Option.some.inj e; omega)
      have HB9 : Hid (Below m w (w2.setCell ⟨Bc, 0, none⟩ (.int .i64 ((many : Int) + 1)))) := HB2.out.setCell (by simp; omega) _
      clear hcs hg c0 cf cl
      go_roundg (offFrom 0 (l'.map PV.plc))
      case measure =>
        have h1 := HGK.out
        have h2 := HO2.out
        omega
      case rel => exact ⟨l', many + 1, (rfl : _ = _), (by have h1 := HGK.out; have h2 := HO2.out; have h3 := HGM.out; show _ = _; omega), HPL, HM2, HR2, HP9, HC9, HK9, HB9⟩

end Go.Proofs.YtlpnfbpgnfappaaGreat

/- The contracts of package plan's planner: find, take, put, room. -/
namespace Go.Proofs.YtlpnfbpgnfappaaGreat
open Go.RowKit Go.PlainAid Go.Lib

set_option maxRecDepth 100000

/-- Lists that are short. -/
def Lens (l : List PV) : Prop := l.length ≤ 250 ∧ ∀ x ∈ l, x.mod.exps.length ≤ 255 ∧ x.mod.imps.length ≤ 255 ∧ x.mod.pats.length ≤ 255
theorem PackAt.rows {base Bp : Nat} {W : World} {t : TypeId} {K : Ker} {ve vl : Value} {l : List PV} (hp : PackAt base Bp W t K ve vl l) (hl : Lens l) : IsPlcs W.heap.size W vl l :=
  ⟨own_rows (C := pvC) (cells := PV.cell) (sz := 8) (fun _ => rfl) pvC_at hp.2.2.1 (by have := hl.1; omega), plc_rows hp.2.2.2 hl.2⟩
/-- What is turned at base or behind, and no registry's cells. -/
def Keeps (base : Nat) (W W' : World) : Prop := Below base W W' ∧ ∀ B c, B < W.heap.size → CellsAt W B 27 c → CellsAt W' B 27 c
theorem Keeps.trans {base : Nat} {W1 W2 W3 : World} (h1 : Keeps base W1 W2) (h2 : Keeps base W2 W3) : Keeps base W1 W3 :=
  ⟨h1.1.trans h2.1, fun B c hB hc => h2.2 B c (Nat.lt_of_lt_of_le hB h1.1.size) (h1.2 B c hB hc)⟩
theorem Keeps.of {base : Nat} {W W' : World} (h : Below W.heap.size W W') (hb : base ≤ W.heap.size) : Keeps base W W' := ⟨h.mono hb, fun _ _ hB hc => hc.below h hB⟩
theorem Keeps.row {base : Nat} {W W' : World} {n : Nat} {v : Value} {xs : List Value} (h : W.ownsRow base 57 8 v n xs) (hg : W.grownBy W' v.ownBlock) (hb : base ≤ W.heap.size) : Keeps base W W' :=
  ⟨(Below.refl base W).grown hg hb (fun q hq => (h.lt q hq).1), fun _ _ _ hc => cells_beside hc h (by decide) hg⟩
theorem Keeps.cell {base : Nat} {W W' : World} {Bp : Nat} {t : TypeId} {cs : Array Value} (hc : CellsAt W Bp t cs) (ht : 27 ≠ t) (hg : W.grownBy W' (some Bp)) (hbp : base ≤ Bp) : Keeps base W W' :=
  ⟨(Below.refl base W).grown hg (by have := hc.lt; omega) (fun q hq => by obtain rfl := Option.some.inj hq; exact hbp), fun B c _ h => h.kept hg (by
    intro e
    have e := Option.some.inj e
    subst e
    have h1 : W.heap[B]? = _ := hc
    have h2 : W.heap[B]? = _ := h
    rw [h1] at h2
    injection h2 with h2
    injection h2 with _ h2
    exact ht h2.symm)⟩

theorem plFind1_any (B : Nat) (name : ByteArray) (x : PV) (w : World) (hlt : B < w.heap.size) (hB : w.cell? ⟨B, 0, none⟩ = some (.string name)) (hat : PlcAt w.heap.size w x) :
    Calls Tryz.prog 92 #[x.val, .pointer (some ⟨B, 0, none⟩)] w fun e w' => e = .returned (.bool (x.mod.name == name)) ∧ Below w.heap.size w w' := by
  rw [← toList_beq2]
  obtain ⟨⟨pe, ke, e4, _⟩, ⟨pi, ki, e5, _⟩, ⟨pp, kp, e6, _⟩⟩ := hat
  obtain ⟨⟨N, ma, mi, T, es, is, ps⟩, ve, vi, vp, fi⟩ := x
  dsimp only at e4 e5 e6
  subst e4 e5 e6
  dsimp only [PV.val]
  generalize es.length = le at *
  generalize is.length = li at *
  generalize ps.length = lp at *
  go_enter Tryz.func92, Tryz.ntmps92
  go_wp2
  go_ret
  exact ⟨rfl, (Below.refl _ _).alloc (Nat.le_refl _) _⟩

theorem plPut1_any (B : Nat) (f : Int) (x : PV) (w : World) (hlt : B < w.heap.size) (hB : w.cell? ⟨B, 0, none⟩ = some (.int .i64 f)) (hat : PlcAt w.heap.size w x) :
    Calls Tryz.prog 95 #[x.val, .pointer (some ⟨B, 0, none⟩)] w fun e w' => e = .returned (.bool (decide (f < x.first))) ∧ Below w.heap.size w w' := by
  obtain ⟨⟨pe, ke, e4, _⟩, ⟨pi, ki, e5, _⟩, ⟨pp, kp, e6, _⟩⟩ := hat
  obtain ⟨⟨N, ma, mi, T, es, is, ps⟩, ve, vi, vp, fi⟩ := x
  dsimp only at e4 e5 e6
  subst e4 e5 e6
  dsimp only [PV.val]
  generalize es.length = le at *
  generalize is.length = li at *
  generalize ps.length = lp at *
  go_enter Tryz.func95, Tryz.ntmps95
  go_wp2
  go_ret
  exact ⟨rfl, (Below.refl _ _).alloc (Nat.le_refl _) _⟩

set_option maxHeartbeats 1000000 in
theorem plFind_any (base Bp : Nat) (K : Ker) (ve vl : Value) (l : List PV) (name : ByteArray) (w : World) (hp : PackAt base Bp w 77 K ve vl l) (hl : Lens l) :
    Calls Tryz.prog 38 #[.pointer (some ⟨Bp, 0, none⟩), .string name] w fun e w' => e = .returned (.int .i64 (ixFrom (fun x : PV => x.mod.name == name) 0 l)) ∧ Below w.heap.size w w' := by
  have hrow := hp.rows hl
  have HIX : Hid (∀ W B, Below w.heap.size w W → B < W.heap.size → W.cell? ⟨B, 0, none⟩ = some (.string name) → Calls Tryz.prog 79 #[vl, .func (.func 92) #[] #[.pointer (some ⟨B, 0, none⟩)]] W fun e w' => e = .returned (.int .i64 (ixFrom (fun x : PV => x.mod.name == name) 0 l)) ∧ Below W.heap.size W w') := by
    intro W B hb hlt hB
    exact ixPlc_any l vl 92 (.pointer (some ⟨B, 0, none⟩)) (fun w x => enters_of Tryz.func92 (by kernel_rfl) rfl _ w) _ W ((hrow.1.below hb).more hb.size) (fun x hx W' hb' => plFind1_any B name x W' (Nat.lt_of_lt_of_le hlt hb'.size) ((hb'.cell (p := ⟨B, 0, none⟩) hlt).trans hB) ((((((hrow.2 x hx).below hb).more hb.size)).below hb').more hb'.size))
  obtain ⟨va, vc, rfl⟩ := own_form hp.2.2.1
  have HC : Hid (CellsAt w Bp 77 #[.int .i64 K.major, .int .i64 K.minor, ve, .slice va l.length vc]) := hp.1
  have B0 : Below w.heap.size w (w.alloc (.cells #[.string name] 9)) := (Below.refl _ _).alloc (Nat.le_refl _) _
  have HB1 : Hid (Below w.heap.size w (w.alloc (.cells #[.string name] 9))) := B0
  have HN1 : Hid (CellsAt (w.alloc (.cells #[.string name] 9)) w.heap.size 9 #[.string name]) := CellsAt.new _ _ _
  have c := CellsAt.cell (hp.1.below B0 hp.1.lt) 3
  have hlt : Bp < (w.alloc (.cells #[.string name] 9)).heap.size := (hp.1.below B0 hp.1.lt).lt
  simp at c
  clear hrow hp hl B0
  generalize l.length = ll at *
  generalize ixFrom (fun x : PV => x.mod.name == name) 0 l = ix at *
  go_enter Tryz.func38, Tryz.ntmps38
  go_wp2_with fail
  refine (HIX.out _ _ HB1.out HN1.out.lt (HN1.out.cell 0)).mono ?_
  rintro e w2 ⟨rfl, b2⟩
  have B2 := HB1.out.trans (b2.mono HB1.out.size)
  clear b2 HIX HB1 HN1 c HC
  go_wp2
  go_ret
  exact ⟨rfl, B2⟩

set_option maxHeartbeats 4000000 in
theorem plTake_any (base Bp : Nat) (K : Ker) (ve vl : Value) (l : List PV) (i : Nat) (x : PV) (w : World) (hp : PackAt base Bp w 77 K ve vl l) (hl : Lens l) (hx : l[i]? = some x) (hb : base ≤ Bp) :
    Calls Tryz.prog 43 #[.pointer (some ⟨Bp, 0, none⟩), .int .i64 i] w fun e w' => e = .returned x.val ∧ (∃ vl', PackAt base Bp w' 77 K ve vl' (l.eraseIdx i)) ∧ Keeps base w w' := by
  obtain ⟨hcell, hE, hL, hP⟩ := hp
  have hjl : i < l.length := (List.getElem?_eq_some_iff.1 hx).1
  obtain ⟨g, cap, cur, rfl, -⟩ : ∃ g cap cur, vl = .slice (some ⟨g, 0, none⟩) l.length cap ∧ w.heap[g]? = some (.cells cur 57 (0, 0)) := by
    rcases hL.2 with ⟨_, h0⟩ | ⟨g, cap, cur, h1, _, h2, _⟩
    · omega
    · exact ⟨g, cap, cur, h1, h2⟩
  have hgw : g < w.heap.size := (hL.lt g rfl).2
  have hgb : base ≤ g := (hL.lt g rfl).1
  have hBw : Bp < w.heap.size := hcell.lt
  have hone : ∀ u ∈ l.flatMap pvC, u.oneCell' = true := pvs_one fun x hx => plc_rows hP hl.2 x hx
  have fl := fun j (hj : j < 8) => flat_at (C := pvC) (sz := 8) (fun _ => rfl) l i x j hx hj
  have cl := fun j (hj : j < 8) => (World.ownsRow.cellAt hL (i * 8 + j) (by omega)).trans (fl j hj)
  have hat := plc_rows hP hl.2 x (List.mem_of_getElem? hx)
  obtain ⟨⟨pe, ke, e4, -⟩, ⟨pi, ki, e5, -⟩, ⟨pp, kp, e6, -⟩⟩ := hat
  have HPB : Hid (∀ y ∈ l, OwnsPlc base w y) := hP
  have hcap := own_capB hL
  have HOE : Hid (w.ownsRow base 129 2 ve K.exps.length (K.exps.flatMap expC)) := hE
  have HOL : Hid (w.ownsRow base 57 8 (.slice (some ⟨g, 0, none⟩) l.length cap) l.length (l.flatMap pvC)) := hL
  have HXM : Hid (x ∈ l) := List.mem_of_getElem? hx
  obtain ⟨qe, je, rfl⟩ := own_form hE
  obtain ⟨⟨N, xa, xi, T, es, is, ps⟩, vxe, vxi, vxp, fi⟩ := x
  dsimp only [pvC, PV.val] at *
  subst e4 e5 e6
  have c0 : w.cell? ⟨g, i * 8, none⟩ = some (.string N) := cl 0 (by omega)
  have c1 : w.cell? ⟨g, i * 8 + 1, none⟩ = some (.int .i64 xa) := cl 1 (by omega)
  have c2 : w.cell? ⟨g, i * 8 + 2, none⟩ = some (.int .i64 xi) := cl 2 (by omega)
  have c3 : w.cell? ⟨g, i * 8 + 3, none⟩ = some (.string T) := cl 3 (by omega)
  have c4 : w.cell? ⟨g, i * 8 + 4, none⟩ = some (.slice pe es.length ke) := cl 4 (by omega)
  have c5 : w.cell? ⟨g, i * 8 + 5, none⟩ = some (.slice pi is.length ki) := cl 5 (by omega)
  have c6 : w.cell? ⟨g, i * 8 + 6, none⟩ = some (.slice pp ps.length kp) := cl 6 (by omega)
  have c7 : w.cell? ⟨g, i * 8 + 7, none⟩ = some (.int .i64 fi) := cl 7 (by omega)
  generalize es.length = le at *
  generalize is.length = li at *
  generalize ps.length = lp at *
  have b1 : Below w.heap.size w (w.alloc (.cells #[.string ⟨#[]⟩, .int .i64 0, .int .i64 0, .string ⟨#[]⟩, .slice none 0 0, .slice none 0 0, .slice none 0 0, .int .i64 0] 57)) := (Below.refl _ _).alloc (Nat.le_refl _) _
  have d0 := (b1.cell (p := ⟨g, i * 8, none⟩) hgw).trans c0
  have d1 := (b1.cell (p := ⟨g, i * 8 + 1, none⟩) hgw).trans c1
  have d2 := (b1.cell (p := ⟨g, i * 8 + 2, none⟩) hgw).trans c2
  have d3 := (b1.cell (p := ⟨g, i * 8 + 3, none⟩) hgw).trans c3
  have d4 := (b1.cell (p := ⟨g, i * 8 + 4, none⟩) hgw).trans c4
  have d5 := (b1.cell (p := ⟨g, i * 8 + 5, none⟩) hgw).trans c5
  have d6 := (b1.cell (p := ⟨g, i * 8 + 6, none⟩) hgw).trans c6
  have d7 := (b1.cell (p := ⟨g, i * 8 + 7, none⟩) hgw).trans c7
  have b2 : Below w.heap.size w ((w.alloc (.cells #[.string ⟨#[]⟩, .int .i64 0, .int .i64 0, .string ⟨#[]⟩, .slice none 0 0, .slice none 0 0, .slice none 0 0, .int .i64 0] 57)).alloc (.cells #[.string N, .int .i64 xa, .int .i64 xi, .string T, .slice pe le ke, .slice pi li ki, .slice pp lp kp, .int .i64 fi] 57)) := b1.alloc b1.size _
  have HB2 : Hid (Below w.heap.size w ((w.alloc (.cells #[.string ⟨#[]⟩, .int .i64 0, .int .i64 0, .string ⟨#[]⟩, .slice none 0 0, .slice none 0 0, .slice none 0 0, .int .i64 0] 57)).alloc (.cells #[.string N, .int .i64 xa, .int .i64 xi, .string T, .slice pe le ke, .slice pi li ki, .slice pp lp kp, .int .i64 fi] 57))) := b2
  have HR2 : Hid (CellsAt ((w.alloc (.cells #[.string ⟨#[]⟩, .int .i64 0, .int .i64 0, .string ⟨#[]⟩, .slice none 0 0, .slice none 0 0, .slice none 0 0, .int .i64 0] 57)).alloc (.cells #[.string N, .int .i64 xa, .int .i64 xi, .string T, .slice pe le ke, .slice pi li ki, .slice pp lp kp, .int .i64 fi] 57)) w.heap.size 57 #[.string ⟨#[]⟩, .int .i64 0, .int .i64 0, .string ⟨#[]⟩, .slice none 0 0, .slice none 0 0, .slice none 0 0, .int .i64 0]) := (CellsAt.new w 57 #[.string ⟨#[]⟩, .int .i64 0, .int .i64 0, .string ⟨#[]⟩, .slice none 0 0, .slice none 0 0, .slice none 0 0, .int .i64 0]).kept (World.grownBy_alloc _ _ none) (by simp)
  have HT2 : Hid (CellsAt ((w.alloc (.cells #[.string ⟨#[]⟩, .int .i64 0, .int .i64 0, .string ⟨#[]⟩, .slice none 0 0, .slice none 0 0, .slice none 0 0, .int .i64 0] 57)).alloc (.cells #[.string N, .int .i64 xa, .int .i64 xi, .string T, .slice pe le ke, .slice pi li ki, .slice pp lp kp, .int .i64 fi] 57)) (w.heap.size + 1) 57 #[.string N, .int .i64 xa, .int .i64 xi, .string T, .slice pe le ke, .slice pi li ki, .slice pp lp kp, .int .i64 fi]) := by
    have := CellsAt.new (w.alloc (.cells #[.string ⟨#[]⟩, .int .i64 0, .int .i64 0, .string ⟨#[]⟩, .slice none 0 0, .slice none 0 0, .slice none 0 0, .int .i64 0] 57)) 57 #[.string N, .int .i64 xa, .int .i64 xi, .string T, .slice pe le ke, .slice pi li ki, .slice pp lp kp, .int .i64 fi]
    rw [World.size_alloc] at this
    exact this
  have HC2 : Hid (CellsAt ((w.alloc (.cells #[.string ⟨#[]⟩, .int .i64 0, .int .i64 0, .string ⟨#[]⟩, .slice none 0 0, .slice none 0 0, .slice none 0 0, .int .i64 0] 57)).alloc (.cells #[.string N, .int .i64 xa, .int .i64 xi, .string T, .slice pe le ke, .slice pi li ki, .slice pp lp kp, .int .i64 fi] 57)) Bp 77 #[.int .i64 K.major, .int .i64 K.minor, .slice qe K.exps.length je, .slice (some ⟨g, 0, none⟩) l.length cap]) := hcell.below b2 hBw
  have HL2 : Hid (((w.alloc (.cells #[.string ⟨#[]⟩, .int .i64 0, .int .i64 0, .string ⟨#[]⟩, .slice none 0 0, .slice none 0 0, .slice none 0 0, .int .i64 0] 57)).alloc (.cells #[.string N, .int .i64 xa, .int .i64 xi, .string T, .slice pe le ke, .slice pi li ki, .slice pp lp kp, .int .i64 fi] 57)).ownsRow base 57 8 (.slice (some ⟨g, 0, none⟩) l.length cap) l.length (l.flatMap pvC)) := own_below hL b2
  have HD : Hid (∀ W : World, W.ownsRow base 57 8 (.slice (some ⟨g, 0, none⟩) l.length cap) l.length (l.flatMap pvC) → Calls Tryz.prog 100 #[.slice (some ⟨g, 0, none⟩) l.length cap, .int .i64 i, .int .i64 ((i : Int) + 1)] W fun e w' => e = .returned (.slice (some ⟨g, 0, none⟩) (l.length - 1) cap) ∧ w'.ownsRow base 57 8 (.slice (some ⟨g, 0, none⟩) (l.length - 1) cap) (l.length - 1) ((l.eraseIdx i).flatMap pvC) ∧ W.grownBy w' (some g)) := fun W h => delPlc_any g l.length cap i base l W h rfl hjl hone (by have := hl.1; omega)
  have HLN : Hid ((l.eraseIdx i).length = l.length - 1) := List.length_eraseIdx_of_lt hjl
  have p3 := CellsAt.cell (hcell.below b1 hBw) 3
  have pl := CellsAt.lt (hcell.below b1 hBw)
  simp at p3
  have hil : (i : Int) < (l.length : Int) := by omega
  have hi0 : ¬ ((i : Int) < 0) := by omega
  have hwi : IntKind.i64.wrap ((i : Int) + 1) = (i : Int) + 1 := by have := hl.1; rw [IntKind.wrap_i64]; omega
  clear b1 b2 c0 c1 c2 c3 c4 c5 c6 c7 hcell hE hL hP hone fl cl hx hcap hl
  go_enter Tryz.func43, Tryz.ntmps43
  go_wp2_with fail
  have HK2 : Hid (Keeps base w ((w.alloc (.cells #[.string ⟨#[]⟩, .int .i64 0, .int .i64 0, .string ⟨#[]⟩, .slice none 0 0, .slice none 0 0, .slice none 0 0, .int .i64 0] 57)).alloc (.cells #[.string N, .int .i64 xa, .int .i64 xi, .string T, .slice pe le ke, .slice pi li ki, .slice pp lp kp, .int .i64 fi] 57))) := Keeps.of HB2.out (by omega)
  have HE2 : Hid (((w.alloc (.cells #[.string ⟨#[]⟩, .int .i64 0, .int .i64 0, .string ⟨#[]⟩, .slice none 0 0, .slice none 0 0, .slice none 0 0, .int .i64 0] 57)).alloc (.cells #[.string N, .int .i64 xa, .int .i64 xi, .string T, .slice pe le ke, .slice pi li ki, .slice pp lp kp, .int .i64 fi] 57)).ownsRow base 129 2 (.slice qe K.exps.length je) K.exps.length (K.exps.flatMap expC)) := own_below HOE.out HB2.out
  have HP2 : Hid (∀ y ∈ l, OwnsPlc base ((w.alloc (.cells #[.string ⟨#[]⟩, .int .i64 0, .int .i64 0, .string ⟨#[]⟩, .slice none 0 0, .slice none 0 0, .slice none 0 0, .int .i64 0] 57)).alloc (.cells #[.string N, .int .i64 xa, .int .i64 xi, .string T, .slice pe le ke, .slice pi li ki, .slice pp lp kp, .int .i64 fi] 57)) y) := fun y hy => (HPB.out y hy).below HB2.out
  refine (HD.out _ HL2.out).mono ?_
  have hsz : w.heap.size + 1 < ((w.alloc (.cells #[.string ⟨#[]⟩, .int .i64 0, .int .i64 0, .string ⟨#[]⟩, .slice none 0 0, .slice none 0 0, .slice none 0 0, .int .i64 0] 57)).alloc (.cells #[.string N, .int .i64 xa, .int .i64 xi, .string T, .slice pe le ke, .slice pi li ki, .slice pp lp kp, .int .i64 fi] 57)).heap.size := HT2.out.lt
  clear HD HB2 HOE HPB HOL p3 pl d0 d1 d2 d3 d4 d5 d6 d7
  generalize ((w.alloc (.cells #[.string ⟨#[]⟩, .int .i64 0, .int .i64 0, .string ⟨#[]⟩, .slice none 0 0, .slice none 0 0, .slice none 0 0, .int .i64 0] 57)).alloc (.cells #[.string N, .int .i64 xa, .int .i64 xi, .string T, .slice pe le ke, .slice pi li ki, .slice pp lp kp, .int .i64 fi] 57)) = w2 at *
  rintro e w3 ⟨rfl, ho3, hg3⟩
  have HK3 : Hid (Keeps base w w3) := HK2.out.trans (Keeps.row HL2.out hg3 (by omega))
  have HC3 : Hid (CellsAt w3 Bp 77 #[.int .i64 K.major, .int .i64 K.minor, .slice qe K.exps.length je, .slice (some ⟨g, 0, none⟩) l.length cap]) := cells_beside HC2.out HL2.out (by decide) hg3
  have HR3 : Hid (CellsAt w3 w.heap.size 57 #[.string ⟨#[]⟩, .int .i64 0, .int .i64 0, .string ⟨#[]⟩, .slice none 0 0, .slice none 0 0, .slice none 0 0, .int .i64 0]) := HR2.out.kept hg3 (by intro e; have := Option.some.inj e; omega)
  have HT3 : Hid (CellsAt w3 (w.heap.size + 1) 57 #[.string N, .int .i64 xa, .int .i64 xi, .string T, .slice pe le ke, .slice pi li ki, .slice pp lp kp, .int .i64 fi]) := HT2.out.kept hg3 (by intro e; have := Option.some.inj e; omega)
  have HE3 : Hid (w3.ownsRow base 129 2 (.slice qe K.exps.length je) K.exps.length (K.exps.flatMap expC)) := own_beside HE2.out HL2.out (by decide) hg3
  have HP3 : Hid (∀ y ∈ l, OwnsPlc base w3 y) := fun y hy => (HP2.out y hy).beside HL2.out hg3
  have HL3 : Hid (w3.ownsRow base 57 8 (.slice (some ⟨g, 0, none⟩) (l.length - 1) cap) (l.length - 1) ((l.eraseIdx i).flatMap pvC)) := ho3
  have hsz3 : w.heap.size + 1 < w3.heap.size := Nat.lt_of_lt_of_le hsz hg3.size
  have p3 := CellsAt.cell HC3.out 3
  have f3 := CellsAt.frozen HC3.out 3
  have pl := CellsAt.lt HC3.out
  simp at p3
  clear HK2 HC2 HR2 HT2 HE2 HP2 HL2 hg3 ho3 hsz
  go_upto_region 3 with fail
  have hG4 := grown_set w3 Bp 3 (.slice (some ⟨g, 0, none⟩) (l.length - 1) cap)
  have HK4 : Hid (Keeps base w (w3.setCell ⟨Bp, 3, none⟩ (.slice (some ⟨g, 0, none⟩) (l.length - 1) cap))) := HK3.out.trans (Keeps.cell HC3.out (by decide) hG4 hb)
  have HC4 : Hid (CellsAt (w3.setCell ⟨Bp, 3, none⟩ (.slice (some ⟨g, 0, none⟩) (l.length - 1) cap)) Bp 77 #[.int .i64 K.major, .int .i64 K.minor, .slice qe K.exps.length je, .slice (some ⟨g, 0, none⟩) (l.length - 1) cap]) := CellsAt.set 3 (.slice (some ⟨g, 0, none⟩) (l.length - 1) cap) HC3.out
  have HR4 : Hid (CellsAt (w3.setCell ⟨Bp, 3, none⟩ (.slice (some ⟨g, 0, none⟩) (l.length - 1) cap)) w.heap.size 57 #[.string ⟨#[]⟩, .int .i64 0, .int .i64 0, .string ⟨#[]⟩, .slice none 0 0, .slice none 0 0, .slice none 0 0, .int .i64 0]) := HR3.out.kept hG4 (by intro e; have := Option.some.inj e; omega)
  have HT4 : Hid (CellsAt (w3.setCell ⟨Bp, 3, none⟩ (.slice (some ⟨g, 0, none⟩) (l.length - 1) cap)) (w.heap.size + 1) 57 #[.string N, .int .i64 xa, .int .i64 xi, .string T, .slice pe le ke, .slice pi li ki, .slice pp lp kp, .int .i64 fi]) := HT3.out.kept hG4 (by intro e; have := Option.some.inj e; omega)
  have HE4 : Hid ((w3.setCell ⟨Bp, 3, none⟩ (.slice (some ⟨g, 0, none⟩) (l.length - 1) cap)).ownsRow base 129 2 (.slice qe K.exps.length je) K.exps.length (K.exps.flatMap expC)) := HE3.out.kept hG4 (.inr (own_ne_cells HE3.out HC3.out (by decide)))
  have HP4 : Hid (∀ y ∈ l, OwnsPlc base (w3.setCell ⟨Bp, 3, none⟩ (.slice (some ⟨g, 0, none⟩) (l.length - 1) cap)) y) := fun y hy => (HP3.out y hy).beCell HC3.out (by decide) (by decide) (by decide) hG4
  have HL4 : Hid ((w3.setCell ⟨Bp, 3, none⟩ (.slice (some ⟨g, 0, none⟩) (l.length - 1) cap)).ownsRow base 57 8 (.slice (some ⟨g, 0, none⟩) (l.length - 1) cap) (l.length - 1) ((l.eraseIdx i).flatMap pvC)) := HL3.out.kept hG4 (.inr (own_ne_cells HL3.out HC3.out (by decide)))
  clear HK3 HC3 HR3 HT3 HE3 HP3 HL3 p3 f3 pl hG4
  generalize (w3.setCell ⟨Bp, 3, none⟩ (.slice (some ⟨g, 0, none⟩) (l.length - 1) cap)) = w4 at *
  have t0 := CellsAt.cell HT4.out 0
  have t1 := CellsAt.cell HT4.out 1
  have t2 := CellsAt.cell HT4.out 2
  have t3 := CellsAt.cell HT4.out 3
  have t4 := CellsAt.cell HT4.out 4
  have t5 := CellsAt.cell HT4.out 5
  have t6 := CellsAt.cell HT4.out 6
  have t7 := CellsAt.cell HT4.out 7
  have tl := CellsAt.lt HT4.out
  have r0 := CellsAt.cell HR4.out 0
  have s0 := CellsAt.frozen HR4.out 0
  have r1 := CellsAt.cell HR4.out 1
  have s1 := CellsAt.frozen HR4.out 1
  have r2 := CellsAt.cell HR4.out 2
  have s2 := CellsAt.frozen HR4.out 2
  have r3 := CellsAt.cell HR4.out 3
  have s3 := CellsAt.frozen HR4.out 3
  have r4 := CellsAt.cell HR4.out 4
  have s4 := CellsAt.frozen HR4.out 4
  have r5 := CellsAt.cell HR4.out 5
  have s5 := CellsAt.frozen HR4.out 5
  have r6 := CellsAt.cell HR4.out 6
  have s6 := CellsAt.frozen HR4.out 6
  have r7 := CellsAt.cell HR4.out 7
  have s7 := CellsAt.frozen HR4.out 7
  have rl := CellsAt.lt HR4.out
  simp at t0 t1 t2 t3 t4 t5 t6 t7 r0 r1 r2 r3 r4 r5 r6 r7
  go_wp2
  clear t0 t1 t2 t3 t4 t5 t6 t7 r0 r1 r2 r3 r4 r5 r6 r7 s0 s1 s2 s3 s4 s5 s6 s7 rl tl
  have hF := sets8 (W := w4) (B := w.heap.size) (t := 57) HR4.out (.string N) (.int .i64 xa) (.int .i64 xi) (.string T) (.slice pe le ke) (.slice pi li ki) (.slice pp lp kp) (.int .i64 fi)
  have hG := sets8_grown w4 w.heap.size (.string N) (.int .i64 xa) (.int .i64 xi) (.string T) (.slice pe le ke) (.slice pi li ki) (.slice pp lp kp) (.int .i64 fi)
  (try simp only [Exit.inBlock, Exit.then])
  refine bodyPost_ret (results_cell_row rfl _ _ _ _ _ _ _ rfl hF Tryz.underlying57 rfl (by kernel_rfl)) rfl ?_
  refine ⟨rfl, ⟨(.slice (some ⟨g, 0, none⟩) (l.length - 1) cap), HC4.out.kept hG (by intro e; have := Option.some.inj e; omega), HE4.out.kept hG (.inr (own_ne_cells HE4.out HR4.out (by decide))), ?_, fun y hy => (HP4.out y (List.mem_of_mem_eraseIdx hy)).beCell HR4.out (by decide) (by decide) (by decide) hG⟩, HK4.out.trans (Keeps.cell HR4.out (by decide) hG (by omega))⟩
  rw [HLN.out]
  exact HL4.out.kept hG (.inr (by intro e; have e : some g = some w.heap.size := e; have := Option.some.inj e; omega))

end Go.Proofs.YtlpnfbpgnfappaaGreat

/- The contract of the planner's put. Printed by genple.py. -/
namespace Go.Proofs.YtlpnfbpgnfappaaGreat
open Go.RowKit Go.PlainAid Go.Lib

set_option maxRecDepth 100000

set_option maxHeartbeats 16000000 in
theorem plPut_any (base Bp : Nat) (K : Ker) (ve vl : Value) (l : List PV) (M : Mod) (vm : Value) (f : Int) (w : World) (hp : PackAt base Bp w 77 K ve vl l) (hl : Lens l) (hm : IsMod w.heap.size w vm M) (hml : M.exps.length ≤ 255 ∧ M.imps.length ≤ 255 ∧ M.pats.length ≤ 255) (hb : base ≤ Bp) :
    Calls Tryz.prog 40 #[.pointer (some ⟨Bp, 0, none⟩), vm, .int .i64 f] w fun e w' => e = .returned (.tuple #[]) ∧ (∃ vl' l', l'.map PV.plc = putAt (l.map PV.plc) ⟨M, f⟩ ∧ l'.length = l.length + 1 ∧ (∀ z ∈ l', z ∈ l ∨ z.mod = M) ∧ PackAt base Bp w' 77 K ve vl' l') ∧ Keeps base w w' := by
  obtain ⟨hcell, hE, hL, hP⟩ := hp
  have hrow : IsPlcs w.heap.size w vl l := PackAt.rows ⟨hcell, hE, hL, hP⟩ hl
  have hBw : Bp < w.heap.size := hcell.lt
  have hone : ∀ u ∈ l.flatMap pvC, u.oneCell' = true := pvs_one fun x hx => plc_rows hP hl.2 x hx
  have hPB : ∀ k, vl.ownBlock = some k → k < w.heap.size := fun k hk => (hL.lt k hk).2
  have HIX : Hid (∀ W B, Below w.heap.size w W → B < W.heap.size → W.cell? ⟨B, 0, none⟩ = some (.int .i64 f) → Calls Tryz.prog 79 #[vl, .func (.func 95) #[] #[.pointer (some ⟨B, 0, none⟩)]] W fun e w' => e = .returned (.int .i64 (ixFrom (fun x : PV => decide (f < x.first)) 0 l)) ∧ Below W.heap.size W w') := by
    intro W B hb hlt hB
    exact ixPlc_any l vl 95 (.pointer (some ⟨B, 0, none⟩)) (fun w x => enters_of Tryz.func95 (by kernel_rfl) rfl _ w) _ W ((hrow.1.below hb).more hb.size) (fun x hx W' hb' => plPut1_any B f x W' (Nat.lt_of_lt_of_le hlt hb'.size) ((hb'.cell (p := ⟨B, 0, none⟩) hlt).trans hB) ((((((hrow.2 x hx).below hb).more hb.size)).below hb').more hb'.size))
  have hkey := put_cases (l.map PV.plc) ⟨M, f⟩
  rw [ix_map] at hkey
  have hkey : ∃ j : Nat, j ≤ l.length ∧ ((ixFrom (fun x : PV => decide (f < x.first)) 0 l = -1 ∧ j = l.length) ∨ ixFrom (fun x : PV => decide (f < x.first)) 0 l = (j : Int)) ∧ putAt (l.map PV.plc) ⟨M, f⟩ = putI (l.map PV.plc) j ⟨M, f⟩ := by
    rcases hkey with ⟨h1, h2⟩ | ⟨j, h1, h2, h3⟩
    · exact ⟨l.length, Nat.le_refl _, .inl ⟨h1, rfl⟩, by rw [List.length_map] at h2; exact h2⟩
    · exact ⟨j, by rw [List.length_map] at h1; omega, .inr h2, h3⟩
  generalize ixFrom (fun x : PV => decide (f < x.first)) 0 l = ix at *
  obtain ⟨j, hj, hjx, hput⟩ := hkey
  obtain ⟨vxe, vxi, vxp, rfl, hxE, hxI, hxP⟩ := hm
  have HAT : Hid (PlcAt w.heap.size w ⟨M, vxe, vxi, vxp, f⟩) := ⟨hxE, hxI, hxP⟩
  have HCP : Hid (∀ W, Below w.heap.size w W → Calls Tryz.prog 81 #[(⟨M, vxe, vxi, vxp, f⟩ : PV).val] W fun e w' => (∃ y : PV, e = .returned y.val ∧ y.plc = ⟨M, f⟩ ∧ OwnsPlc W.heap.size w' y) ∧ Below W.heap.size W w') := fun W hb => copyPlc_any ⟨M, vxe, vxi, vxp, f⟩ W ((HAT.out.below hb).more hb.size) hml.1 hml.2.1 hml.2.2
  obtain ⟨pe, ke, e4, -⟩ := hxE
  obtain ⟨pi, ki, e5, -⟩ := hxI
  obtain ⟨pp, kp, e6, -⟩ := hxP
  subst e4 e5 e6
  obtain ⟨va, vc, rfl⟩ := own_form hL
  obtain ⟨qe, je, rfl⟩ := own_form hE
  have HML : Hid (M.exps.length ≤ 255 ∧ M.imps.length ≤ 255 ∧ M.pats.length ≤ 255) := hml
  have HPT : Hid (putAt (l.map PV.plc) ⟨M, f⟩ = putI (l.map PV.plc) j ⟨M, f⟩) := hput
  have HCM : Hid (w.ownsRow base 57 8 (.slice va l.length vc) l.length (l.flatMap pvC)) := hL
  have HEM : Hid (w.ownsRow base 129 2 (.slice qe K.exps.length je) K.exps.length (K.exps.flatMap expC)) := hE
  have HPM : Hid (∀ y ∈ l, OwnsPlc base w y) := hP
  have hl250 := hl.1
  dsimp only [PV.val] at HCP ⊢
  obtain ⟨N, xa, xi, T, es, is, ps⟩ := M
  dsimp only at *
  generalize hle : es.length = le at *
  generalize hli : is.length = li at *
  generalize hlp : ps.length = lp at *
  have b1 : Below w.heap.size w (w.alloc (.cells #[.string N, .int .i64 xa, .int .i64 xi, .string T, .slice pe le ke, .slice pi li ki, .slice pp lp kp] 31)) := (Below.refl _ _).alloc (Nat.le_refl _) _
  have b2 : Below w.heap.size w ((w.alloc (.cells #[.string N, .int .i64 xa, .int .i64 xi, .string T, .slice pe le ke, .slice pi li ki, .slice pp lp kp] 31)).alloc (.cells #[.int .i64 f] 3)) := b1.alloc b1.size _
  have HB2 : Hid (Below w.heap.size w ((w.alloc (.cells #[.string N, .int .i64 xa, .int .i64 xi, .string T, .slice pe le ke, .slice pi li ki, .slice pp lp kp] 31)).alloc (.cells #[.int .i64 f] 3))) := b2
  have HM2 : Hid (CellsAt ((w.alloc (.cells #[.string N, .int .i64 xa, .int .i64 xi, .string T, .slice pe le ke, .slice pi li ki, .slice pp lp kp] 31)).alloc (.cells #[.int .i64 f] 3)) w.heap.size 31 #[.string N, .int .i64 xa, .int .i64 xi, .string T, .slice pe le ke, .slice pi li ki, .slice pp lp kp]) := (CellsAt.new w 31 #[.string N, .int .i64 xa, .int .i64 xi, .string T, .slice pe le ke, .slice pi li ki, .slice pp lp kp]).kept (World.grownBy_alloc _ _ none) (by simp)
  have HF2 : Hid (CellsAt ((w.alloc (.cells #[.string N, .int .i64 xa, .int .i64 xi, .string T, .slice pe le ke, .slice pi li ki, .slice pp lp kp] 31)).alloc (.cells #[.int .i64 f] 3)) (w.heap.size + 1) 3 #[.int .i64 f]) := by
    have := CellsAt.new (w.alloc (.cells #[.string N, .int .i64 xa, .int .i64 xi, .string T, .slice pe le ke, .slice pi li ki, .slice pp lp kp] 31)) 3 #[.int .i64 f]
    rw [World.size_alloc] at this
    exact this
  have HC2 : Hid (CellsAt ((w.alloc (.cells #[.string N, .int .i64 xa, .int .i64 xi, .string T, .slice pe le ke, .slice pi li ki, .slice pp lp kp] 31)).alloc (.cells #[.int .i64 f] 3)) Bp 77 #[.int .i64 K.major, .int .i64 K.minor, .slice qe K.exps.length je, .slice va l.length vc]) := hcell.below b2 hBw
  have p3 := CellsAt.cell HC2.out 3
  have pl := CellsAt.lt HC2.out
  simp at p3
  have hsz : w.heap.size + 1 < ((w.alloc (.cells #[.string N, .int .i64 xa, .int .i64 xi, .string T, .slice pe le ke, .slice pi li ki, .slice pp lp kp] 31)).alloc (.cells #[.int .i64 f] 3)).heap.size := HF2.out.lt
  clear b1 b2 hcell hE hL hP hrow hl hml hput
  go_enter Tryz.func40, Tryz.ntmps40
  go_wp2_with fail
  refine (HIX.out _ _ HB2.out HF2.out.lt (HF2.out.cell 0)).mono ?_
  clear p3 pl
  generalize ((w.alloc (.cells #[.string N, .int .i64 xa, .int .i64 xi, .string T, .slice pe le ke, .slice pi li ki, .slice pp lp kp] 31)).alloc (.cells #[.int .i64 f] 3)) = w2 at *
  rintro e w3 ⟨rfl, b3⟩
  have HB3 : Hid (Below w.heap.size w w3) := HB2.out.trans (b3.mono HB2.out.size)
  have HM3 : Hid (CellsAt w3 w.heap.size 31 #[.string N, .int .i64 xa, .int .i64 xi, .string T, .slice pe le ke, .slice pi li ki, .slice pp lp kp]) := HM2.out.below b3 HM2.out.lt
  have HF3 : Hid (CellsAt w3 (w.heap.size + 1) 3 #[.int .i64 f]) := HF2.out.below b3 HF2.out.lt
  have HC3 : Hid (CellsAt w3 Bp 77 #[.int .i64 K.major, .int .i64 K.minor, .slice qe K.exps.length je, .slice va l.length vc]) := HC2.out.below b3 HC2.out.lt
  have hsz3 : w.heap.size + 1 < w3.heap.size := HF3.out.lt
  clear b3 HIX HB2 HM2 HF2 HC2 hsz
  rcases hjx with ⟨rfl, rfl⟩ | rfl
  · have p3 := CellsAt.cell HC3.out 3
    have pl := CellsAt.lt HC3.out
    simp at p3
    go_upto_region 4 with fail
    clear p3 pl
    refine wp_region_noPanic ?_
    refine wp_region_L (S := fun w' => CellsAt w' Bp 77 #[.int .i64 K.major, .int .i64 K.minor, .slice qe K.exps.length je, .slice va l.length vc] ∧ CellsAt w' w.heap.size 31 #[.string N, .int .i64 xa, .int .i64 xi, .string T, .slice pe le ke, .slice pi li ki, .slice pp lp kp] ∧ CellsAt w' (w.heap.size + 1) 3 #[.int .i64 f]) (x := 16) (by kernel_rfl) ?_
    have HB4 : Hid (Below w.heap.size w w3.drew) := HB3.out.drew
    have HC4 : Hid (CellsAt w3.drew Bp 77 #[.int .i64 K.major, .int .i64 K.minor, .slice qe K.exps.length je, .slice va l.length vc]) := (HC3.out : CellsAt w3 _ _ _)
    have HM4 : Hid (CellsAt w3.drew w.heap.size 31 #[.string N, .int .i64 xa, .int .i64 xi, .string T, .slice pe le ke, .slice pi li ki, .slice pp lp kp]) := (HM3.out : CellsAt w3 _ _ _)
    have HF4 : Hid (CellsAt w3.drew (w.heap.size + 1) 3 #[.int .i64 f]) := (HF3.out : CellsAt w3 _ _ _)
    have hsz4 : w.heap.size + 1 < w3.drew.heap.size := HF4.out.lt
    clear HB3 HC3 HM3 HF3 hsz3
    generalize w3.drew = w4 at *
    have hS0 : CellsAt w4 Bp 77 #[.int .i64 K.major, .int .i64 K.minor, .slice qe K.exps.length je, .slice va l.length vc] ∧ CellsAt w4 w.heap.size 31 #[.string N, .int .i64 xa, .int .i64 xi, .string T, .slice pe le ke, .slice pi li ki, .slice pp lp kp] ∧ CellsAt w4 (w.heap.size + 1) 3 #[.int .i64 f] := ⟨HC4.out, HM4.out, HF4.out⟩
    refine wpL_take 0 22 (.pointer (some ⟨Bp, 0, none⟩)) rfl (by kernel_rfl) (fun _ _ _ h => h) hS0 rfl rfl (fun w' hSw => by clear hSw; go_simp) ?_
    simp only [List.setIfInBounds_toArray, List.set_cons_zero, List.set_cons_succ]
    refine wpL_take 1 23 (.pointer (some ⟨Bp, 0, none⟩)) rfl (by kernel_rfl) (fun _ _ _ h => h) hS0 rfl rfl (fun w' hSw => by clear hSw; go_simp) ?_
    simp only [List.setIfInBounds_toArray, List.set_cons_zero, List.set_cons_succ]
    refine wpL_take 2 24 (.pointer (some ⟨Bp, 0, none⟩)) rfl (by kernel_rfl) (fun _ _ _ h => h) hS0 rfl rfl (fun w' hSw => by clear hSw; go_simp) ?_
    simp only [List.setIfInBounds_toArray, List.set_cons_zero, List.set_cons_succ]
    refine wpL_take 3 25 (.pointer (some ⟨Bp, 0, none⟩)) rfl (by kernel_rfl) (fun _ _ _ h => h) hS0 rfl rfl (fun w' hSw => by clear hSw; go_simp) ?_
    simp only [List.setIfInBounds_toArray, List.set_cons_zero, List.set_cons_succ]
    refine wpL_take 4 26 (.pointer (some ⟨Bp, 3, none⟩)) rfl (by kernel_rfl) (fun _ _ _ h => h) hS0 rfl rfl (fun w' hSw => by clear hSw; go_simp) ?_
    simp only [List.setIfInBounds_toArray, List.set_cons_zero, List.set_cons_succ]
    refine wpL_take 5 27 (.slice va l.length vc) rfl (by kernel_rfl) (fun _ _ _ h => h) hS0 rfl rfl (fun w' hSw => by have q := CellsAt.cell hSw.1 3; simp at q; clear hSw; go_simp) ?_
    simp only [List.setIfInBounds_toArray, List.set_cons_zero, List.set_cons_succ]
    refine wpL_take 6 28 (.int .i64 (l.length : Int)) rfl (by kernel_rfl) (fun _ _ _ h => h) hS0 rfl rfl (fun w' hSw => by clear hSw; go_simp) ?_
    simp only [List.setIfInBounds_toArray, List.set_cons_zero, List.set_cons_succ]
    refine wpL_take 7 29 (.agg #[.string N, .int .i64 xa, .int .i64 xi, .string T, .slice pe le ke, .slice pi li ki, .slice pp lp kp]) rfl (by kernel_rfl) (fun _ _ _ h => h) hS0 rfl rfl (fun w' hSw => by have q0 := CellsAt.cell hSw.2.1 0; have q1 := CellsAt.cell hSw.2.1 1; have q2 := CellsAt.cell hSw.2.1 2; have q3 := CellsAt.cell hSw.2.1 3; have q4 := CellsAt.cell hSw.2.1 4; have q5 := CellsAt.cell hSw.2.1 5; have q6 := CellsAt.cell hSw.2.1 6; simp at q0 q1 q2 q3 q4 q5 q6; clear hSw; go_simp) ?_
    simp only [List.setIfInBounds_toArray, List.set_cons_zero, List.set_cons_succ]
    refine wpL_take 8 30 (.int .i64 f) rfl (by kernel_rfl) (fun _ _ _ h => h) hS0 rfl rfl (fun w' hSw => by have q := CellsAt.cell hSw.2.2 0; simp at q; clear hSw; go_simp) ?_
    simp only [List.setIfInBounds_toArray, List.set_cons_zero, List.set_cons_succ]
    refine wpL_take 9 31 (.agg #[.string N, .int .i64 xa, .int .i64 xi, .string T, .slice pe le ke, .slice pi li ki, .slice pp lp kp, .int .i64 f]) rfl (by kernel_rfl) (fun _ _ _ h => h) hS0 rfl rfl (fun w' hSw => by clear hSw; go_simp) ?_
    simp only [List.setIfInBounds_toArray, List.set_cons_zero, List.set_cons_succ]
    clear hS0
    refine wpL_step (i := 10) rfl (by kernel_rfl) (fun Kq hK => ?_)
    go_simp
    refine (HCP.out _ HB4.out).mono ?_
    rintro e w5 ⟨⟨y, rfl, hy, hO⟩, b5⟩
    have HB5 : Hid (Below w.heap.size w w5) := HB4.out.trans (b5.mono HB4.out.size)
    have HC5 : Hid (CellsAt w5 Bp 77 #[.int .i64 K.major, .int .i64 K.minor, .slice qe K.exps.length je, .slice va l.length vc]) := HC4.out.below b5 HC4.out.lt
    have HM5 : Hid (CellsAt w5 w.heap.size 31 #[.string N, .int .i64 xa, .int .i64 xi, .string T, .slice pe le ke, .slice pi li ki, .slice pp lp kp]) := HM4.out.below b5 HM4.out.lt
    have HF5 : Hid (CellsAt w5 (w.heap.size + 1) 3 #[.int .i64 f]) := HF4.out.below b5 HF4.out.lt
    have hsz5 : w.heap.size + 1 < w5.heap.size := HF5.out.lt
    have HO5 : Hid (OwnsPlc base w5 y) := hO.lower (by have := HB4.out.size; omega)
    have HY5 : Hid (y.plc = ⟨⟨N, xa, xi, T, es, is, ps⟩, f⟩) := hy
    obtain ⟨o1, o2, o3⟩ := hO
    obtain ⟨ya1, yc1, e1⟩ := own_form o1
    obtain ⟨ya2, yc2, e2⟩ := own_form o2
    obtain ⟨ya3, yc3, e3⟩ := own_form o3
    generalize y.mod.exps.length = yn1 at *
    generalize y.mod.imps.length = yn2 at *
    generalize y.mod.pats.length = yn3 at *
    have HYC : Hid (pvC y = [.string y.mod.name, .int .i64 y.mod.major, .int .i64 y.mod.minor, .string y.mod.text, .slice ya1 yn1 yc1, .slice ya2 yn2 yc2, .slice ya3 yn3 yc3, .int .i64 y.first]) := by
      show [_, _, _, _, y.ve, y.vi, y.vp, _] = _
      rw [e1, e2, e3]
    rw [e1, e2, e3]
    clear e1 e2 e3 o1 o2 o3 hy b5 HCP HB4 HC4 HM4 HF4 hsz4
    go_simp
    refine hK.out _ _ ⟨HC5.out, HM5.out, HF5.out⟩ (fun _ => ?_)
    clear hK Kq
    generalize hyN : y.mod.name = yN at *
    generalize hyT : y.mod.text = yT at *
    generalize hya : y.mod.major = yma at *
    generalize hyi : y.mod.minor = ymi at *
    generalize hyf : y.first = yf at *
    clear hyN hyT hya hyi hyf
    refine wpL_step (i := 11) rfl (by kernel_rfl) (fun Kq hK => ?_)
    go_simp
    have b6 : Below w5.heap.size w5 (w5.alloc (.cells #[.string yN, .int .i64 yma, .int .i64 ymi, .string yT, .slice ya1 yn1 yc1, .slice ya2 yn2 yc2, .slice ya3 yn3 yc3, .int .i64 yf] 57)) := (Below.refl _ _).alloc (Nat.le_refl _) _
    have HB6 : Hid (Below w.heap.size w (w5.alloc (.cells #[.string yN, .int .i64 yma, .int .i64 ymi, .string yT, .slice ya1 yn1 yc1, .slice ya2 yn2 yc2, .slice ya3 yn3 yc3, .int .i64 yf] 57))) := HB5.out.trans (b6.mono HB5.out.size)
    have HC6 : Hid (CellsAt (w5.alloc (.cells #[.string yN, .int .i64 yma, .int .i64 ymi, .string yT, .slice ya1 yn1 yc1, .slice ya2 yn2 yc2, .slice ya3 yn3 yc3, .int .i64 yf] 57)) Bp 77 #[.int .i64 K.major, .int .i64 K.minor, .slice qe K.exps.length je, .slice va l.length vc]) := HC5.out.below b6 HC5.out.lt
    have HM6 : Hid (CellsAt (w5.alloc (.cells #[.string yN, .int .i64 yma, .int .i64 ymi, .string yT, .slice ya1 yn1 yc1, .slice ya2 yn2 yc2, .slice ya3 yn3 yc3, .int .i64 yf] 57)) w.heap.size 31 #[.string N, .int .i64 xa, .int .i64 xi, .string T, .slice pe le ke, .slice pi li ki, .slice pp lp kp]) := HM5.out.below b6 HM5.out.lt
    have HF6 : Hid (CellsAt (w5.alloc (.cells #[.string yN, .int .i64 yma, .int .i64 ymi, .string yT, .slice ya1 yn1 yc1, .slice ya2 yn2 yc2, .slice ya3 yn3 yc3, .int .i64 yf] 57)) (w.heap.size + 1) 3 #[.int .i64 f]) := HF5.out.below b6 HF5.out.lt
    have HO6 : Hid (OwnsPlc base (w5.alloc (.cells #[.string yN, .int .i64 yma, .int .i64 ymi, .string yT, .slice ya1 yn1 yc1, .slice ya2 yn2 yc2, .slice ya3 yn3 yc3, .int .i64 yf] 57)) y) := HO5.out.below b6
    have HV6 : Hid (CellsAt (w5.alloc (.cells #[.string yN, .int .i64 yma, .int .i64 ymi, .string yT, .slice ya1 yn1 yc1, .slice ya2 yn2 yc2, .slice ya3 yn3 yc3, .int .i64 yf] 57)) w5.heap.size 57 (pvC y).toArray) := by
      rw [HYC.out]
      exact CellsAt.new _ _ _
    refine hK.out _ _ ⟨HC6.out, HM6.out, HF6.out⟩ (fun _ => ?_)
    clear hK Kq b6 HB5 HC5 HM5 HF5 HO5
    have hl6 : w5.heap.size < (w5.alloc (.cells #[.string yN, .int .i64 yma, .int .i64 ymi, .string yT, .slice ya1 yn1 yc1, .slice ya2 yn2 yc2, .slice ya3 yn3 yc3, .int .i64 yf] 57)).heap.size := HV6.out.lt
    have h56 : w.heap.size + 1 < w5.heap.size := hsz5
    clear hsz5
    generalize (w5.alloc (.cells #[.string yN, .int .i64 yma, .int .i64 ymi, .string yT, .slice ya1 yn1 yc1, .slice ya2 yn2 yc2, .slice ya3 yn3 yc3, .int .i64 yf] 57)) = w6 at *
    generalize w5.heap.size = B5 at *
    refine wpL_step (i := 12) rfl (by kernel_rfl) (fun Kq hK => ?_)
    go_simp
    have HL6 : Hid (w6.ownsRow base 57 8 (.slice va l.length vc) l.length (l.flatMap pvC)) := own_below HCM.out HB6.out
    have hyo : ∀ u ∈ pvC y, u.oneCell' = true := by
      rw [HYC.out]
      intro u hu
      simp only [List.mem_cons, List.not_mem_nil, or_false] at hu
      rcases hu with rfl | rfl | rfl | rfl | rfl | rfl | rfl | rfl <;> rfl
    refine (insPlc_any (.slice va l.length vc) l.length l.length base B5 l y w6 HL6.out rfl (by omega) hone hyo (by omega) HV6.out (by intro e; have := hPB _ e; omega) (by omega)).mono ?_
    rintro e w7 ⟨v7, rfl, ho7, hg7⟩
    have HK7 : Hid (Keeps base w w7) := (Keeps.of HB6.out (by omega)).trans (Keeps.row HL6.out hg7 (by omega))
    have HC7 : Hid (CellsAt w7 Bp 77 #[.int .i64 K.major, .int .i64 K.minor, .slice qe K.exps.length je, .slice va l.length vc]) := cells_beside HC6.out HL6.out (by decide) hg7
    have HM7 : Hid (CellsAt w7 w.heap.size 31 #[.string N, .int .i64 xa, .int .i64 xi, .string T, .slice pe le ke, .slice pi li ki, .slice pp lp kp]) := cells_beside HM6.out HL6.out (by decide) hg7
    have HF7 : Hid (CellsAt w7 (w.heap.size + 1) 3 #[.int .i64 f]) := cells_beside HF6.out HL6.out (by decide) hg7
    have HO7 : Hid (OwnsPlc base w7 y) := HO6.out.beside HL6.out hg7
    have HP7 : Hid (∀ z ∈ l, OwnsPlc base w7 z) := fun z hz => ((HPM.out z hz).below HB6.out).beside HL6.out hg7
    have HE7 : Hid (w7.ownsRow base 129 2 (.slice qe K.exps.length je) K.exps.length (K.exps.flatMap expC)) := own_beside (own_below HEM.out HB6.out) HL6.out (by decide) hg7
    have HL7 : Hid (w7.ownsRow base 57 8 v7 (l.length + 1) ((putI l l.length y).flatMap pvC)) := ho7
    obtain ⟨na, nc, rfl⟩ := own_form ho7
    clear hyo hg7 ho7 HB6 HC6 HM6 HF6 HO6 HV6 HL6
    go_simp
    refine hK.out _ _ ⟨HC7.out, HM7.out, HF7.out⟩ (fun hS7 => ?_)
    clear hK Kq
    refine wpL_take 13 35 (.pointer (some ⟨Bp, 0, none⟩)) rfl (by kernel_rfl) (fun _ _ _ h => h) hS7 rfl rfl (fun w' hSw => by clear hSw; go_simp) ?_
    simp only [List.setIfInBounds_toArray, List.set_cons_zero, List.set_cons_succ]
    refine wpL_take 14 36 (.pointer (some ⟨Bp, 0, none⟩)) rfl (by kernel_rfl) (fun _ _ _ h => h) hS7 rfl rfl (fun w' hSw => by clear hSw; go_simp) ?_
    simp only [List.setIfInBounds_toArray, List.set_cons_zero, List.set_cons_succ]
    refine wpL_take 15 37 (.pointer (some ⟨Bp, 3, none⟩)) rfl (by kernel_rfl) (fun _ _ _ h => h) hS7 rfl rfl (fun w' hSw => by clear hSw; go_simp) ?_
    simp only [List.setIfInBounds_toArray, List.set_cons_zero, List.set_cons_succ]
    have p3 := CellsAt.cell HC7.out 3
    have f3 := CellsAt.frozen HC7.out 3
    have pl := CellsAt.lt HC7.out
    simp at p3
    clear hS7
    refine wpL_last (x := 16) rfl (by kernel_rfl) (by kernel_rfl) (fun Kq hK => ?_)
    go_simp
    refine hK.out _ _ ?_
    refine NoPanic.normal ?_
    clear hK Kq p3 f3 pl
    have hG8 := grown_set w7 Bp 3 (.slice na (l.length + 1) nc)
    have HC8 := CellsAt.set 3 (.slice na (l.length + 1) nc) HC7.out
    simp only [List.setIfInBounds_toArray, List.set_cons_zero, List.set_cons_succ] at HC8
    have HLL : (putI l l.length y).length = l.length + 1 := by
      unfold putI
      rw [List.length_append, List.length_take, List.length_cons, List.length_drop]
      omega
    go_end0
    refine ⟨rfl, ⟨.slice na (l.length + 1) nc, putI l l.length y, ?_, ?_, ?_, HC8, HE7.out.kept hG8 (.inr (own_ne_cells HE7.out HC7.out (by decide))), ?_, ?_⟩, HK7.out.trans (Keeps.cell HC7.out (by decide) hG8 hb)⟩
    · rw [putI_map, HY5.out]
      exact HPT.out.symm
    · exact HLL
    · intro z hz
      unfold putI at hz
      rcases List.mem_append.1 hz with hz | hz
      · exact .inl (List.mem_of_mem_take hz)
      · rcases List.mem_cons.1 hz with rfl | hz
        · exact .inr (congrArg Plc.mod HY5.out)
        · exact .inl (List.mem_of_mem_drop hz)
    · rw [HLL]
      exact HL7.out.kept hG8 (.inr (own_ne_cells HL7.out HC7.out (by decide)))
    · intro z hz
      unfold putI at hz
      rcases List.mem_append.1 hz with hz | hz
      · exact (HP7.out z (List.mem_of_mem_take hz)).beCell HC7.out (by decide) (by decide) (by decide) hG8
      · rcases List.mem_cons.1 hz with rfl | hz
        · exact HO7.out.beCell HC7.out (by decide) (by decide) (by decide) hG8
        · exact (HP7.out z (List.mem_of_mem_drop hz)).beCell HC7.out (by decide) (by decide) (by decide) hG8
  · have hjn : ¬ ((j : Int) < 0) := by omega
    go_upto_region 4 with fail
    refine wp_region_noPanic ?_
    refine wp_region_L (S := fun w' => CellsAt w' Bp 77 #[.int .i64 K.major, .int .i64 K.minor, .slice qe K.exps.length je, .slice va l.length vc] ∧ CellsAt w' w.heap.size 31 #[.string N, .int .i64 xa, .int .i64 xi, .string T, .slice pe le ke, .slice pi li ki, .slice pp lp kp] ∧ CellsAt w' (w.heap.size + 1) 3 #[.int .i64 f]) (x := 16) (by kernel_rfl) ?_
    have HB4 : Hid (Below w.heap.size w w3.drew) := HB3.out.drew
    have HC4 : Hid (CellsAt w3.drew Bp 77 #[.int .i64 K.major, .int .i64 K.minor, .slice qe K.exps.length je, .slice va l.length vc]) := (HC3.out : CellsAt w3 _ _ _)
    have HM4 : Hid (CellsAt w3.drew w.heap.size 31 #[.string N, .int .i64 xa, .int .i64 xi, .string T, .slice pe le ke, .slice pi li ki, .slice pp lp kp]) := (HM3.out : CellsAt w3 _ _ _)
    have HF4 : Hid (CellsAt w3.drew (w.heap.size + 1) 3 #[.int .i64 f]) := (HF3.out : CellsAt w3 _ _ _)
    have hsz4 : w.heap.size + 1 < w3.drew.heap.size := HF4.out.lt
    clear HB3 HC3 HM3 HF3 hsz3
    generalize w3.drew = w4 at *
    have hS0 : CellsAt w4 Bp 77 #[.int .i64 K.major, .int .i64 K.minor, .slice qe K.exps.length je, .slice va l.length vc] ∧ CellsAt w4 w.heap.size 31 #[.string N, .int .i64 xa, .int .i64 xi, .string T, .slice pe le ke, .slice pi li ki, .slice pp lp kp] ∧ CellsAt w4 (w.heap.size + 1) 3 #[.int .i64 f] := ⟨HC4.out, HM4.out, HF4.out⟩
    refine wpL_take 0 22 (.pointer (some ⟨Bp, 0, none⟩)) rfl (by kernel_rfl) (fun _ _ _ h => h) hS0 rfl rfl (fun w' hSw => by clear hSw; go_simp) ?_
    simp only [List.setIfInBounds_toArray, List.set_cons_zero, List.set_cons_succ]
    refine wpL_take 1 23 (.pointer (some ⟨Bp, 0, none⟩)) rfl (by kernel_rfl) (fun _ _ _ h => h) hS0 rfl rfl (fun w' hSw => by clear hSw; go_simp) ?_
    simp only [List.setIfInBounds_toArray, List.set_cons_zero, List.set_cons_succ]
    refine wpL_take 2 24 (.pointer (some ⟨Bp, 0, none⟩)) rfl (by kernel_rfl) (fun _ _ _ h => h) hS0 rfl rfl (fun w' hSw => by clear hSw; go_simp) ?_
    simp only [List.setIfInBounds_toArray, List.set_cons_zero, List.set_cons_succ]
    refine wpL_take 3 25 (.pointer (some ⟨Bp, 0, none⟩)) rfl (by kernel_rfl) (fun _ _ _ h => h) hS0 rfl rfl (fun w' hSw => by clear hSw; go_simp) ?_
    simp only [List.setIfInBounds_toArray, List.set_cons_zero, List.set_cons_succ]
    refine wpL_take 4 26 (.pointer (some ⟨Bp, 3, none⟩)) rfl (by kernel_rfl) (fun _ _ _ h => h) hS0 rfl rfl (fun w' hSw => by clear hSw; go_simp) ?_
    simp only [List.setIfInBounds_toArray, List.set_cons_zero, List.set_cons_succ]
    refine wpL_take 5 27 (.slice va l.length vc) rfl (by kernel_rfl) (fun _ _ _ h => h) hS0 rfl rfl (fun w' hSw => by have q := CellsAt.cell hSw.1 3; simp at q; clear hSw; go_simp) ?_
    simp only [List.setIfInBounds_toArray, List.set_cons_zero, List.set_cons_succ]
    refine wpL_take 6 28 (.int .i64 (j : Int)) rfl (by kernel_rfl) (fun _ _ _ h => h) hS0 rfl rfl (fun w' hSw => by clear hSw; go_simp) ?_
    simp only [List.setIfInBounds_toArray, List.set_cons_zero, List.set_cons_succ]
    refine wpL_take 7 29 (.agg #[.string N, .int .i64 xa, .int .i64 xi, .string T, .slice pe le ke, .slice pi li ki, .slice pp lp kp]) rfl (by kernel_rfl) (fun _ _ _ h => h) hS0 rfl rfl (fun w' hSw => by have q0 := CellsAt.cell hSw.2.1 0; have q1 := CellsAt.cell hSw.2.1 1; have q2 := CellsAt.cell hSw.2.1 2; have q3 := CellsAt.cell hSw.2.1 3; have q4 := CellsAt.cell hSw.2.1 4; have q5 := CellsAt.cell hSw.2.1 5; have q6 := CellsAt.cell hSw.2.1 6; simp at q0 q1 q2 q3 q4 q5 q6; clear hSw; go_simp) ?_
    simp only [List.setIfInBounds_toArray, List.set_cons_zero, List.set_cons_succ]
    refine wpL_take 8 30 (.int .i64 f) rfl (by kernel_rfl) (fun _ _ _ h => h) hS0 rfl rfl (fun w' hSw => by have q := CellsAt.cell hSw.2.2 0; simp at q; clear hSw; go_simp) ?_
    simp only [List.setIfInBounds_toArray, List.set_cons_zero, List.set_cons_succ]
    refine wpL_take 9 31 (.agg #[.string N, .int .i64 xa, .int .i64 xi, .string T, .slice pe le ke, .slice pi li ki, .slice pp lp kp, .int .i64 f]) rfl (by kernel_rfl) (fun _ _ _ h => h) hS0 rfl rfl (fun w' hSw => by clear hSw; go_simp) ?_
    simp only [List.setIfInBounds_toArray, List.set_cons_zero, List.set_cons_succ]
    clear hS0
    refine wpL_step (i := 10) rfl (by kernel_rfl) (fun Kq hK => ?_)
    go_simp
    refine (HCP.out _ HB4.out).mono ?_
    rintro e w5 ⟨⟨y, rfl, hy, hO⟩, b5⟩
    have HB5 : Hid (Below w.heap.size w w5) := HB4.out.trans (b5.mono HB4.out.size)
    have HC5 : Hid (CellsAt w5 Bp 77 #[.int .i64 K.major, .int .i64 K.minor, .slice qe K.exps.length je, .slice va l.length vc]) := HC4.out.below b5 HC4.out.lt
    have HM5 : Hid (CellsAt w5 w.heap.size 31 #[.string N, .int .i64 xa, .int .i64 xi, .string T, .slice pe le ke, .slice pi li ki, .slice pp lp kp]) := HM4.out.below b5 HM4.out.lt
    have HF5 : Hid (CellsAt w5 (w.heap.size + 1) 3 #[.int .i64 f]) := HF4.out.below b5 HF4.out.lt
    have hsz5 : w.heap.size + 1 < w5.heap.size := HF5.out.lt
    have HO5 : Hid (OwnsPlc base w5 y) := hO.lower (by have := HB4.out.size; omega)
    have HY5 : Hid (y.plc = ⟨⟨N, xa, xi, T, es, is, ps⟩, f⟩) := hy
    obtain ⟨o1, o2, o3⟩ := hO
    obtain ⟨ya1, yc1, e1⟩ := own_form o1
    obtain ⟨ya2, yc2, e2⟩ := own_form o2
    obtain ⟨ya3, yc3, e3⟩ := own_form o3
    generalize y.mod.exps.length = yn1 at *
    generalize y.mod.imps.length = yn2 at *
    generalize y.mod.pats.length = yn3 at *
    have HYC : Hid (pvC y = [.string y.mod.name, .int .i64 y.mod.major, .int .i64 y.mod.minor, .string y.mod.text, .slice ya1 yn1 yc1, .slice ya2 yn2 yc2, .slice ya3 yn3 yc3, .int .i64 y.first]) := by
      show [_, _, _, _, y.ve, y.vi, y.vp, _] = _
      rw [e1, e2, e3]
    rw [e1, e2, e3]
    clear e1 e2 e3 o1 o2 o3 hy b5 HCP HB4 HC4 HM4 HF4 hsz4
    go_simp
    refine hK.out _ _ ⟨HC5.out, HM5.out, HF5.out⟩ (fun _ => ?_)
    clear hK Kq
    generalize hyN : y.mod.name = yN at *
    generalize hyT : y.mod.text = yT at *
    generalize hya : y.mod.major = yma at *
    generalize hyi : y.mod.minor = ymi at *
    generalize hyf : y.first = yf at *
    clear hyN hyT hya hyi hyf
    refine wpL_step (i := 11) rfl (by kernel_rfl) (fun Kq hK => ?_)
    go_simp
    have b6 : Below w5.heap.size w5 (w5.alloc (.cells #[.string yN, .int .i64 yma, .int .i64 ymi, .string yT, .slice ya1 yn1 yc1, .slice ya2 yn2 yc2, .slice ya3 yn3 yc3, .int .i64 yf] 57)) := (Below.refl _ _).alloc (Nat.le_refl _) _
    have HB6 : Hid (Below w.heap.size w (w5.alloc (.cells #[.string yN, .int .i64 yma, .int .i64 ymi, .string yT, .slice ya1 yn1 yc1, .slice ya2 yn2 yc2, .slice ya3 yn3 yc3, .int .i64 yf] 57))) := HB5.out.trans (b6.mono HB5.out.size)
    have HC6 : Hid (CellsAt (w5.alloc (.cells #[.string yN, .int .i64 yma, .int .i64 ymi, .string yT, .slice ya1 yn1 yc1, .slice ya2 yn2 yc2, .slice ya3 yn3 yc3, .int .i64 yf] 57)) Bp 77 #[.int .i64 K.major, .int .i64 K.minor, .slice qe K.exps.length je, .slice va l.length vc]) := HC5.out.below b6 HC5.out.lt
    have HM6 : Hid (CellsAt (w5.alloc (.cells #[.string yN, .int .i64 yma, .int .i64 ymi, .string yT, .slice ya1 yn1 yc1, .slice ya2 yn2 yc2, .slice ya3 yn3 yc3, .int .i64 yf] 57)) w.heap.size 31 #[.string N, .int .i64 xa, .int .i64 xi, .string T, .slice pe le ke, .slice pi li ki, .slice pp lp kp]) := HM5.out.below b6 HM5.out.lt
    have HF6 : Hid (CellsAt (w5.alloc (.cells #[.string yN, .int .i64 yma, .int .i64 ymi, .string yT, .slice ya1 yn1 yc1, .slice ya2 yn2 yc2, .slice ya3 yn3 yc3, .int .i64 yf] 57)) (w.heap.size + 1) 3 #[.int .i64 f]) := HF5.out.below b6 HF5.out.lt
    have HO6 : Hid (OwnsPlc base (w5.alloc (.cells #[.string yN, .int .i64 yma, .int .i64 ymi, .string yT, .slice ya1 yn1 yc1, .slice ya2 yn2 yc2, .slice ya3 yn3 yc3, .int .i64 yf] 57)) y) := HO5.out.below b6
    have HV6 : Hid (CellsAt (w5.alloc (.cells #[.string yN, .int .i64 yma, .int .i64 ymi, .string yT, .slice ya1 yn1 yc1, .slice ya2 yn2 yc2, .slice ya3 yn3 yc3, .int .i64 yf] 57)) w5.heap.size 57 (pvC y).toArray) := by
      rw [HYC.out]
      exact CellsAt.new _ _ _
    refine hK.out _ _ ⟨HC6.out, HM6.out, HF6.out⟩ (fun _ => ?_)
    clear hK Kq b6 HB5 HC5 HM5 HF5 HO5
    have hl6 : w5.heap.size < (w5.alloc (.cells #[.string yN, .int .i64 yma, .int .i64 ymi, .string yT, .slice ya1 yn1 yc1, .slice ya2 yn2 yc2, .slice ya3 yn3 yc3, .int .i64 yf] 57)).heap.size := HV6.out.lt
    have h56 : w.heap.size + 1 < w5.heap.size := hsz5
    clear hsz5
    generalize (w5.alloc (.cells #[.string yN, .int .i64 yma, .int .i64 ymi, .string yT, .slice ya1 yn1 yc1, .slice ya2 yn2 yc2, .slice ya3 yn3 yc3, .int .i64 yf] 57)) = w6 at *
    generalize w5.heap.size = B5 at *
    refine wpL_step (i := 12) rfl (by kernel_rfl) (fun Kq hK => ?_)
    go_simp
    have HL6 : Hid (w6.ownsRow base 57 8 (.slice va l.length vc) l.length (l.flatMap pvC)) := own_below HCM.out HB6.out
    have hyo : ∀ u ∈ pvC y, u.oneCell' = true := by
      rw [HYC.out]
      intro u hu
      simp only [List.mem_cons, List.not_mem_nil, or_false] at hu
      rcases hu with rfl | rfl | rfl | rfl | rfl | rfl | rfl | rfl <;> rfl
    refine (insPlc_any (.slice va l.length vc) l.length j base B5 l y w6 HL6.out rfl (by omega) hone hyo (by omega) HV6.out (by intro e; have := hPB _ e; omega) (by omega)).mono ?_
    rintro e w7 ⟨v7, rfl, ho7, hg7⟩
    have HK7 : Hid (Keeps base w w7) := (Keeps.of HB6.out (by omega)).trans (Keeps.row HL6.out hg7 (by omega))
    have HC7 : Hid (CellsAt w7 Bp 77 #[.int .i64 K.major, .int .i64 K.minor, .slice qe K.exps.length je, .slice va l.length vc]) := cells_beside HC6.out HL6.out (by decide) hg7
    have HM7 : Hid (CellsAt w7 w.heap.size 31 #[.string N, .int .i64 xa, .int .i64 xi, .string T, .slice pe le ke, .slice pi li ki, .slice pp lp kp]) := cells_beside HM6.out HL6.out (by decide) hg7
    have HF7 : Hid (CellsAt w7 (w.heap.size + 1) 3 #[.int .i64 f]) := cells_beside HF6.out HL6.out (by decide) hg7
    have HO7 : Hid (OwnsPlc base w7 y) := HO6.out.beside HL6.out hg7
    have HP7 : Hid (∀ z ∈ l, OwnsPlc base w7 z) := fun z hz => ((HPM.out z hz).below HB6.out).beside HL6.out hg7
    have HE7 : Hid (w7.ownsRow base 129 2 (.slice qe K.exps.length je) K.exps.length (K.exps.flatMap expC)) := own_beside (own_below HEM.out HB6.out) HL6.out (by decide) hg7
    have HL7 : Hid (w7.ownsRow base 57 8 v7 (l.length + 1) ((putI l j y).flatMap pvC)) := ho7
    obtain ⟨na, nc, rfl⟩ := own_form ho7
    clear hyo hg7 ho7 HB6 HC6 HM6 HF6 HO6 HV6 HL6
    go_simp
    refine hK.out _ _ ⟨HC7.out, HM7.out, HF7.out⟩ (fun hS7 => ?_)
    clear hK Kq
    refine wpL_take 13 35 (.pointer (some ⟨Bp, 0, none⟩)) rfl (by kernel_rfl) (fun _ _ _ h => h) hS7 rfl rfl (fun w' hSw => by clear hSw; go_simp) ?_
    simp only [List.setIfInBounds_toArray, List.set_cons_zero, List.set_cons_succ]
    refine wpL_take 14 36 (.pointer (some ⟨Bp, 0, none⟩)) rfl (by kernel_rfl) (fun _ _ _ h => h) hS7 rfl rfl (fun w' hSw => by clear hSw; go_simp) ?_
    simp only [List.setIfInBounds_toArray, List.set_cons_zero, List.set_cons_succ]
    refine wpL_take 15 37 (.pointer (some ⟨Bp, 3, none⟩)) rfl (by kernel_rfl) (fun _ _ _ h => h) hS7 rfl rfl (fun w' hSw => by clear hSw; go_simp) ?_
    simp only [List.setIfInBounds_toArray, List.set_cons_zero, List.set_cons_succ]
    have p3 := CellsAt.cell HC7.out 3
    have f3 := CellsAt.frozen HC7.out 3
    have pl := CellsAt.lt HC7.out
    simp at p3
    clear hS7
    refine wpL_last (x := 16) rfl (by kernel_rfl) (by kernel_rfl) (fun Kq hK => ?_)
    go_simp
    refine hK.out _ _ ?_
    refine NoPanic.normal ?_
    clear hK Kq p3 f3 pl
    have hG8 := grown_set w7 Bp 3 (.slice na (l.length + 1) nc)
    have HC8 := CellsAt.set 3 (.slice na (l.length + 1) nc) HC7.out
    simp only [List.setIfInBounds_toArray, List.set_cons_zero, List.set_cons_succ] at HC8
    have HLL : (putI l j y).length = l.length + 1 := by
      unfold putI
      rw [List.length_append, List.length_take, List.length_cons, List.length_drop]
      omega
    go_end0
    refine ⟨rfl, ⟨.slice na (l.length + 1) nc, putI l j y, ?_, ?_, ?_, HC8, HE7.out.kept hG8 (.inr (own_ne_cells HE7.out HC7.out (by decide))), ?_, ?_⟩, HK7.out.trans (Keeps.cell HC7.out (by decide) hG8 hb)⟩
    · rw [putI_map, HY5.out]
      exact HPT.out.symm
    · exact HLL
    · intro z hz
      unfold putI at hz
      rcases List.mem_append.1 hz with hz | hz
      · exact .inl (List.mem_of_mem_take hz)
      · rcases List.mem_cons.1 hz with rfl | hz
        · exact .inr (congrArg Plc.mod HY5.out)
        · exact .inl (List.mem_of_mem_drop hz)
    · rw [HLL]
      exact HL7.out.kept hG8 (.inr (own_ne_cells HL7.out HC7.out (by decide)))
    · intro z hz
      unfold putI at hz
      rcases List.mem_append.1 hz with hz | hz
      · exact (HP7.out z (List.mem_of_mem_take hz)).beCell HC7.out (by decide) (by decide) (by decide) hG8
      · rcases List.mem_cons.1 hz with rfl | hz
        · exact HO7.out.beCell HC7.out (by decide) (by decide) (by decide) hG8
        · exact (HP7.out z (List.mem_of_mem_drop hz)).beCell HC7.out (by decide) (by decide) (by decide) hG8

end Go.Proofs.YtlpnfbpgnfappaaGreat
