/- The program's reader and the document's taker answer alike. -/
import Derived.Test.YtaklbnabgcglhaaTkB
namespace Go.Proofs.Ytaklbnabgcglhaa

def bnd {α β : Type} (f : (Nat × Bool) → α × (Nat × Bool)) (g : α → (Nat × Bool) → β × (Nat × Bool)) : (Nat × Bool) → β × (Nat × Bool) := fun σ => g (f σ).1 (f σ).2
/-- Both are short, or neither is, and then they answer alike. -/
def Agr {α : Type} (f f' : (Nat × Bool) → α × (Nat × Bool)) : Prop := (∀ σ : (Nat × Bool), σ.2 = true → (f σ).2.2 = true ∧ (f' σ).2.2 = true) ∧ ∀ σ : (Nat × Bool), σ.2 = false → (f σ).2.2 = (f' σ).2.2 ∧ ((f σ).2.2 = false → f σ = f' σ)

theorem Agr.bind {α β : Type} {f f' : (Nat × Bool) → α × (Nat × Bool)} {g g' : α → (Nat × Bool) → β × (Nat × Bool)} (h : Agr f f') (k : ∀ x, Agr (g x) (g' x)) : Agr (bnd f g) (bnd f' g') := by
  refine ⟨fun σ hσ => ⟨((k _).1 _ (h.1 σ hσ).1).1, ((k _).1 _ (h.1 σ hσ).2).2⟩, fun σ hσ => ?_⟩
  obtain ⟨h1, h2⟩ := h.2 σ hσ
  cases e : (f σ).2.2 with
  | false =>
    have e2 := h2 e
    show (g (f σ).1 (f σ).2).2.2 = (g' (f' σ).1 (f' σ).2).2.2 ∧ ((g (f σ).1 (f σ).2).2.2 = false → g (f σ).1 (f σ).2 = g' (f' σ).1 (f' σ).2)
    rw [← e2]
    exact (k _).2 _ e
  | true =>
    have a1 := ((k (f σ).1).1 _ e).1
    have a2 := ((k (f' σ).1).1 _ (h1 ▸ e)).2
    refine ⟨a1.trans a2.symm, fun e3 => ?_⟩
    have e4 : (g (f σ).1 (f σ).2).2.2 = false := e3
    rw [a1] at e4
    cases e4
theorem Agr.pure {α : Type} (x : α) : Agr (fun σ => (x, σ)) (fun σ => (x, σ)) := ⟨fun _ h => ⟨h, h⟩, fun _ _ => ⟨rfl, fun _ => rfl⟩⟩

theorem agr_num (s : ByteArray) (m : Nat) : Agr (rdNum false s m) (rdNum true s m) := by
  refine ⟨fun σ h => ?_, fun σ h => ?_⟩
  · constructor
    · unfold rdNum
      split
      · rfl
      · exact h
    · unfold rdNum
      rw [if_pos (.inl (by rw [h]; rfl))]
  · have : rdNum false s m σ = rdNum true s m σ := by
      unfold rdNum
      rw [h]
      rfl
    rw [this]
    exact ⟨rfl, fun _ => rfl⟩
theorem agr_piece (s : ByteArray) (m : Nat) : Agr (rdPiece false s m) (rdPiece true s m) := by
  refine ⟨fun σ h => ?_, fun σ h => ?_⟩
  · constructor
    · unfold rdPiece
      split
      · rfl
      · exact h
    · unfold rdPiece
      rw [if_pos (.inl (by rw [h]; rfl))]
  · have : rdPiece false s m σ = rdPiece true s m σ := by
      unfold rdPiece
      rw [h]
      rfl
    rw [this]
    exact ⟨rfl, fun _ => rfl⟩
theorem agr_name (s : ByteArray) : Agr (rdName false s) (rdName true s) := (agr_num s 1).bind (fun x => agr_piece s x.toNat)
theorem agr_exp (s : ByteArray) : Agr (rdExp false s) (rdExp true s) :=
  (agr_name s).bind (g := fun n => bnd (rdNum false s 2) (fun a σ => ((⟨n, a⟩ : Exp), σ))) (g' := fun n => bnd (rdNum true s 2) (fun a σ => ((⟨n, a⟩ : Exp), σ))) (fun _ => (agr_num s 2).bind (fun _ => Agr.pure _))
theorem agr_imp (s : ByteArray) : Agr (rdImp false s) (rdImp true s) :=
  (agr_name s).bind (g := fun m => bnd (rdName false s) (fun n => bnd (rdNum false s 1) (fun a => bnd (rdNum false s 1) (fun b σ => ((⟨m, n, a, b⟩ : Imp), σ)))))
    (g' := fun m => bnd (rdName true s) (fun n => bnd (rdNum true s 1) (fun a => bnd (rdNum true s 1) (fun b σ => ((⟨m, n, a, b⟩ : Imp), σ)))))
    (fun _ => (agr_name s).bind (fun _ => (agr_num s 1).bind (fun _ => (agr_num s 1).bind (fun _ => Agr.pure _))))
theorem agr_pat (s : ByteArray) : Agr (rdPat false s) (rdPat true s) :=
  (agr_num s 1).bind (g := fun k => bnd (rdNum false s 2) (fun a => bnd (rdNum false s 1) (fun y => bnd (rdNum false s 2) (fun d σ => ((⟨k, a, y - 1, d⟩ : Pat), σ)))))
    (g' := fun k => bnd (rdNum true s 2) (fun a => bnd (rdNum true s 1) (fun y => bnd (rdNum true s 2) (fun d σ => ((⟨k, a, y - 1, d⟩ : Pat), σ)))))
    (fun _ => (agr_num s 2).bind (fun _ => (agr_num s 1).bind (fun _ => (agr_num s 2).bind (fun _ => Agr.pure _))))
theorem agr_step {α : Type} {f f' : (Nat × Bool) → α × (Nat × Bool)} (h : Agr f f') (l : List α) : Agr (fun σ => rdStep f (l, σ)) (fun σ => rdStep f' (l, σ)) := by
  refine ⟨fun σ hσ => ?_, fun σ hσ => ?_⟩
  · simp only [rdStep, hσ, if_true, and_self]
  · obtain ⟨h1, h2⟩ := h.2 σ hσ
    have e1 : rdStep f (l, σ) = (l ++ [(f σ).1], (f σ).2) := by rw [rdStep, if_neg (by simp [hσ])]
    have e2 : rdStep f' (l, σ) = (l ++ [(f' σ).1], (f' σ).2) := by rw [rdStep, if_neg (by simp [hσ])]
    dsimp only
    rw [e1, e2]
    exact ⟨h1, fun h3 => by rw [h2 h3]⟩
theorem agr_times {α : Type} {f f' : (Nat × Bool) → α × (Nat × Bool)} (h : Agr f f') : ∀ (k : Nat) (l : List α), Agr (fun σ => rdTimes f k (l, σ)) (fun σ => rdTimes f' k (l, σ))
  | 0, l => Agr.pure l
  | k + 1, l => (agr_times h k l).bind (g := fun l σ => rdStep f (l, σ)) (g' := fun l σ => rdStep f' (l, σ)) (fun l => agr_step h l)
theorem agr_many {α : Type} (s : ByteArray) {f f' : (Nat × Bool) → α × (Nat × Bool)} (h : Agr f f') : Agr (rdMany false s f) (rdMany true s f') :=
  Agr.bind (f := rdNum false s 1) (f' := rdNum true s 1) (g := fun (n : Int) σ => rdTimes f n.toNat ([], σ)) (g' := fun (n : Int) σ => rdTimes f' n.toNat ([], σ)) (agr_num s 1) (fun n => agr_times h n.toNat [])
theorem agr_mod (s : ByteArray) : Agr (rdMod false s) (rdMod true s) :=
  (agr_name s).bind
    (g := fun n => bnd (rdNum false s 1) (fun a => bnd (rdNum false s 1) (fun b => bnd (rdNum false s 2) (fun l => bnd (rdPiece false s l.toNat) (fun t => bnd (rdMany false s (rdExp false s)) (fun e => bnd (rdMany false s (rdImp false s)) (fun i => bnd (rdMany false s (rdPat false s)) (fun p σ => ((⟨n, a, b, t, e, i, p⟩ : Mod), σ)))))))))
    (g' := fun n => bnd (rdNum true s 1) (fun a => bnd (rdNum true s 1) (fun b => bnd (rdNum true s 2) (fun l => bnd (rdPiece true s l.toNat) (fun t => bnd (rdMany true s (rdExp true s)) (fun e => bnd (rdMany true s (rdImp true s)) (fun i => bnd (rdMany true s (rdPat true s)) (fun p σ => ((⟨n, a, b, t, e, i, p⟩ : Mod), σ)))))))))
    (fun _ => (agr_num s 1).bind (fun _ => (agr_num s 1).bind (fun _ => (agr_num s 2).bind (fun l => (agr_piece s l.toNat).bind (fun _ => (agr_many s (agr_exp s)).bind (fun _ => (agr_many s (agr_imp s)).bind (fun _ => (agr_many s (agr_pat s)).bind (fun _ => Agr.pure _))))))))

theorem told_alike (s : ByteArray) : told s (rdMod false s (0, false)) = told s (rdMod true s (0, false)) := by
  obtain ⟨h1, h2⟩ := (agr_mod s).2 (0, false) rfl
  cases e : (rdMod false s (0, false)).2.2 with
  | false => rw [h2 e]
  | true =>
    rw [e] at h1
    unfold told
    rw [e, ← h1]
    rfl

end Go.Proofs.Ytaklbnabgcglhaa
