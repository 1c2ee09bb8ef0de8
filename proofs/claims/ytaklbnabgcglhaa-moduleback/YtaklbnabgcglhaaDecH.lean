/- The contracts of the reader's three loops. -/
import Derived.Test.YtaklbnabgcglhaaDecF
namespace Go.Proofs.Ytaklbnabgcglhaa
open Go.RowKit Go.PlainAid Go.Lib

/-- A value that is this module, its slices in blocks of their own, none below base. -/
def OwnsMod (base : Nat) (W : World) (v : Value) (M : Mod) : Prop :=
  ∃ ve vi vp, v = .agg #[.string M.name, .int .i64 M.major, .int .i64 M.minor, .string M.text, ve, vi, vp] ∧
    (W.ownsRow base 77 2 ve M.exps.length (M.exps.flatMap expC) ∧ W.ownsRow base 74 4 vi M.imps.length (M.imps.flatMap impC) ∧ W.ownsRow base 48 4 vp M.pats.length (M.pats.flatMap patC)) ∧
    M.exps.length ≤ 255 ∧ M.imps.length ≤ 255 ∧ M.pats.length ≤ 255
theorem OwnsMod.grown {base : Nat} {W W' : World} {v : Value} {M : Mod} (h : OwnsMod base W v M) {row : Option Nat} (hg : W.grownBy W' row) (hr : ∀ k, row = some k → k < base) : OwnsMod base W' v M := by
  obtain ⟨ve, vi, vp, e, ⟨h1, h2, h3⟩, hl⟩ := h
  exact ⟨ve, vi, vp, e, ⟨row_grown h1 hg (fun k e => .inl (hr k e)), row_grown h2 hg (fun k e => .inl (hr k e)), row_grown h3 hg (fun k e => .inl (hr k e))⟩, hl⟩
theorem OwnsMod.below {base : Nat} {W W' : World} {v : Value} {M : Mod} (h : OwnsMod base W v M) (hb : Below W.heap.size W W') : OwnsMod base W' v M := h.grown (grown_of_below hb) (fun k e => by cases e)
theorem row_less {W : World} {base base' : Nat} {e : TypeId} {size : Nat} {v : Value} {n : Nat} {xs : List Value} (h : W.ownsRow base e size v n xs) (hb : base' ≤ base) : W.ownsRow base' e size v n xs :=
  ⟨h.1, h.2.imp id (fun ⟨g, cap, cur, h1, h2, h3⟩ => ⟨g, cap, cur, h1, Nat.le_trans hb h2, h3⟩)⟩
theorem OwnsMod.less {base base' : Nat} {W : World} {v : Value} {M : Mod} (h : OwnsMod base W v M) (hb : base' ≤ base) : OwnsMod base' W v M := by
  obtain ⟨ve, vi, vp, e, ⟨h1, h2, h3⟩, hl⟩ := h
  exact ⟨ve, vi, vp, e, ⟨row_less h1 hb, row_less h2 hb, row_less h3 hb⟩, hl⟩
theorem OwnsMod.isMod {base : Nat} {W : World} {v : Value} {M : Mod} (h : OwnsMod base W v M) : IsMod W.heap.size W v M := by
  obtain ⟨ve, vi, vp, e, ⟨h1, h2, h3⟩, l1, l2, l3⟩ := h
  exact ⟨ve, vi, vp, e, rowExp h1 l1, rowImp h2 l2, rowPat h3 l3⟩
theorem OwnsMod.form {base : Nat} {W : World} {v : Value} {M : Mod} (h : OwnsMod base W v M) : ∃ pe ke pi ki pp kp, v = .agg #[.string M.name, .int .i64 M.major, .int .i64 M.minor, .string M.text, .slice pe M.exps.length ke, .slice pi M.imps.length ki, .slice pp M.pats.length kp] := by
  obtain ⟨ve, vi, vp, rfl, ⟨h1, h2, h3⟩, _⟩ := h
  obtain ⟨pe, ke, rfl⟩ := ownsRow_slice h1
  obtain ⟨pi, ki, rfl⟩ := ownsRow_slice h2
  obtain ⟨pp, kp, rfl⟩ := ownsRow_slice h3
  exact ⟨pe, ke, pi, ki, pp, kp, rfl⟩

theorem rdMany_length {α : Type} (c : Bool) (s : ByteArray) (f : (Nat × Bool) → α × (Nat × Bool)) (σ : (Nat × Bool)) : (rdMany c s f σ).1.length ≤ 255 := by
  have h1 := rdTimes_length f ([], (rdNum c s 1 σ).2) (rdNum c s 1 σ).1.toNat
  have h2 := rdNum_bd c s 1 σ
  simp only [List.length_nil, Nat.zero_add] at h1
  show (rdTimes f (rdNum c s 1 σ).1.toNat ([], (rdNum c s 1 σ).2)).1.length ≤ 255
  omega

theorem times_exp (base R Br Bm : Nat) (s N T : ByteArray) (a b : Int) (w : World)  (σ : (Nat × Bool)) (h : MSt base R Br Bm s N T a b w [] [] [] σ)
    (hR : R < base) (hBr : Br < base) (hBm : Bm < base) (n1 : R ≠ Br) (n2 : R ≠ Bm) (n3 : Br ≠ Bm) (hs : s.size ≤ 140737488351232) (ha : σ.1 ≤ s.size) (hb : base ≤ w.heap.size) :
    Calls Try.prog 67 #[.pointer (some ⟨R, 0, none⟩), .func (.func 68) #[] #[.pointer (some ⟨Bm, 0, none⟩), .pointer (some ⟨Br, 0, none⟩)]] w fun e w' => e = .returned (.tuple #[]) ∧ MSt base R Br Bm s N T a b w' (rdMany false s (rdExp false s) σ).1 [] [] (rdMany false s (rdExp false s) σ).2 ∧ LowK base R Bm w w' ∧ base ≤ w'.heap.size := by
  refine (times_any R s σ 68 _ (enters_of Try.func68 (by kernel_rfl) rfl _) (rdExp false s) (fun W l τ => MSt base R Br Bm s N T a b W l [] [] τ ∧ LowK base R Bm w W ∧ base ≤ W.heap.size) (fun W l τ h => h.1.rd) (fun τ hτ => rdExp_le false s τ hτ) ?_ w h.rd ?_ hs ha).mono (fun e w' hh => hh)
  · rintro W l τ hl hτ ⟨h1, h2, h3⟩
    exact (one_exp base R Br Bm s N T a b W _ _ _ τ h1 hR hBr hBm n1 n2 n3 hs hτ h3 hl).mono fun e W' ⟨e1, e2, e3⟩ => ⟨e1, e2, h2.trans e3, Nat.le_trans h3 e3.size⟩
  · intro W hg hr
    exact ⟨h.read hg hr hR n1 n2, LowK.grown hg hb (fun k e => by cases e; exact .inl rfl), Nat.le_trans hb hg.size⟩

theorem times_imp (base R Br Bm : Nat) (s N T : ByteArray) (a b : Int) (w : World) (es : List Exp) (σ : (Nat × Bool)) (h : MSt base R Br Bm s N T a b w es [] [] σ)
    (hR : R < base) (hBr : Br < base) (hBm : Bm < base) (n1 : R ≠ Br) (n2 : R ≠ Bm) (n3 : Br ≠ Bm) (hs : s.size ≤ 140737488351232) (ha : σ.1 ≤ s.size) (hb : base ≤ w.heap.size) :
    Calls Try.prog 67 #[.pointer (some ⟨R, 0, none⟩), .func (.func 69) #[] #[.pointer (some ⟨Bm, 0, none⟩), .pointer (some ⟨Br, 0, none⟩)]] w fun e w' => e = .returned (.tuple #[]) ∧ MSt base R Br Bm s N T a b w' es (rdMany false s (rdImp false s) σ).1 [] (rdMany false s (rdImp false s) σ).2 ∧ LowK base R Bm w w' ∧ base ≤ w'.heap.size := by
  refine (times_any R s σ 69 _ (enters_of Try.func69 (by kernel_rfl) rfl _) (rdImp false s) (fun W l τ => MSt base R Br Bm s N T a b W es l [] τ ∧ LowK base R Bm w W ∧ base ≤ W.heap.size) (fun W l τ h => h.1.rd) (fun τ hτ => rdImp_le false s τ hτ) ?_ w h.rd ?_ hs ha).mono (fun e w' hh => hh)
  · rintro W l τ hl hτ ⟨h1, h2, h3⟩
    exact (one_imp base R Br Bm s N T a b W _ _ _ τ h1 hR hBr hBm n1 n2 n3 hs hτ h3 hl).mono fun e W' ⟨e1, e2, e3⟩ => ⟨e1, e2, h2.trans e3, Nat.le_trans h3 e3.size⟩
  · intro W hg hr
    exact ⟨h.read hg hr hR n1 n2, LowK.grown hg hb (fun k e => by cases e; exact .inl rfl), Nat.le_trans hb hg.size⟩

theorem times_pat (base R Br Bm : Nat) (s N T : ByteArray) (a b : Int) (w : World) (es : List Exp) (is : List Imp) (σ : (Nat × Bool)) (h : MSt base R Br Bm s N T a b w es is [] σ)
    (hR : R < base) (hBr : Br < base) (hBm : Bm < base) (n1 : R ≠ Br) (n2 : R ≠ Bm) (n3 : Br ≠ Bm) (hs : s.size ≤ 140737488351232) (ha : σ.1 ≤ s.size) (hb : base ≤ w.heap.size) :
    Calls Try.prog 67 #[.pointer (some ⟨R, 0, none⟩), .func (.func 70) #[] #[.pointer (some ⟨Bm, 0, none⟩), .pointer (some ⟨Br, 0, none⟩)]] w fun e w' => e = .returned (.tuple #[]) ∧ MSt base R Br Bm s N T a b w' es is (rdMany false s (rdPat false s) σ).1 (rdMany false s (rdPat false s) σ).2 ∧ LowK base R Bm w w' ∧ base ≤ w'.heap.size := by
  refine (times_any R s σ 70 _ (enters_of Try.func70 (by kernel_rfl) rfl _) (rdPat false s) (fun W l τ => MSt base R Br Bm s N T a b W es is l τ ∧ LowK base R Bm w W ∧ base ≤ W.heap.size) (fun W l τ h => h.1.rd) (fun τ hτ => rdPat_le false s τ hτ) ?_ w h.rd ?_ hs ha).mono (fun e w' hh => hh)
  · rintro W l τ hl hτ ⟨h1, h2, h3⟩
    exact (one_pat base R Br Bm s N T a b W _ _ _ τ h1 hR hBr hBm n1 n2 n3 hs hτ h3 hl).mono fun e W' ⟨e1, e2, e3⟩ => ⟨e1, e2, h2.trans e3, Nat.le_trans h3 e3.size⟩
  · intro W hg hr
    exact ⟨h.read hg hr hR n1 n2, LowK.grown hg hb (fun k e => by cases e; exact .inl rfl), Nat.le_trans hb hg.size⟩

end Go.Proofs.Ytaklbnabgcglhaa
