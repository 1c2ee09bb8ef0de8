/- A module that checks is read as it was; what was read is what lies there. -/
import Derived.Test.YtaklbnabgcglhaaParB
namespace Go.Proofs.Ytaklbnabgcglhaa
open Go.RowKit Go.PlainAid

theorem width_kind {k : Int} (h : width k ≠ 0) : 0 ≤ k ∧ k < 256 := by
  unfold width at h
  split at h
  · omega
  · split at h
    · omega
    · split at h
      · omega
      · exact absurd rfl h
theorem width_pos {k : Int} (h : width k ≠ 0) : 0 < width k := by
  have := width_bd k
  omega

theorem encL_form (M : Mod) : encL M = nameB M.name ++ (numsBytes 1 [M.major] ++ (numsBytes 1 [M.minor] ++ (numsBytes 2 [(M.text.size : Int)] ++ (M.text.data.toList ++ ((numsBytes 1 [(M.exps.length : Int)] ++ M.exps.flatMap expB) ++ ((numsBytes 1 [(M.imps.length : Int)] ++ M.imps.flatMap impB) ++ (numsBytes 1 [(M.pats.length : Int)] ++ M.pats.flatMap patB))))))) := by
  unfold encL headB
  rw [numsBytes_two]
  simp only [List.append_assoc]

theorem isVer_bd {a b : Int} (h : isVer a b = true) : (0 ≤ a ∧ a < 256) ∧ 0 ≤ b ∧ b < 256 := by
  unfold isVer at h
  rw [Bool.and_eq_true, betw_iff, betw_iff] at h
  omega

theorem rdMod_of (c : Bool) (s : ByteArray) (M : Mod) (hM : chkMod M = 0) (h : LieAt s 0 (encL M)) : rdMod c s (0, false) = (M, ((encL M).length, false)) := by
  obtain ⟨m1, _, m3, m4, m5, m6, m7, m8, m9, m10, m11, m12⟩ := chkMod_zero hM
  have v := isVer_bd m3
  rw [encL_form] at h ⊢
  obtain ⟨x1, h⟩ := LieAt.append.1 h
  obtain ⟨x2, h⟩ := LieAt.append.1 h
  obtain ⟨x3, h⟩ := LieAt.append.1 h
  obtain ⟨x4, h⟩ := LieAt.append.1 h
  obtain ⟨x5, h⟩ := LieAt.append.1 h
  obtain ⟨x6, h⟩ := LieAt.append.1 h
  obtain ⟨x7, x8⟩ := LieAt.append.1 h
  have hz4 : (numsBytes 2 [(M.text.size : Int)]).length = 2 := rfl
  have hle := x4.le (by rw [hz4]; omega)
  have e1 := rdName_of c s 0 M.name x1 (by have := isNm_size m1; omega)
  have e2 := rdNum_of c s _ 1 (.inl rfl) M.major x2 v.1.1 (by simpa using v.1.2)
  have e3 := rdNum_of c s _ 1 (.inl rfl) M.minor x3 v.2.1 (by simpa using v.2.2)
  have e4 := rdNum_of c s _ 2 (.inr rfl) M.text.size x4 (by omega) (by omega)
  have e5 := rdPiece_of c s _ M.text x5 hle
  have e6 := rdMany_of c s (rdExp c s) expB M.exps (by omega) (fun e he a hl => by
    have q := chkExps_all _ _ _ m10 e he
    have := isNm_size q.1
    exact rdExp_of c s a e hl (by omega) ⟨q.2.1, by omega⟩) _ x6
  have e7 := rdMany_of c s (rdImp c s) impB M.imps (by omega) (fun e he a hl => by
    have q := chkImps_all _ _ m11 e he
    have q1 := isNm_size q.1
    have q2 := isNm_size q.2.1
    have q3 := isVer_bd q.2.2
    exact rdImp_of c s a e hl (by omega) (by omega) q3.1 q3.2) _ x7
  have e8 := rdMany_of c s (rdPat c s) patB M.pats (by omega) (fun e he a hl => by
    have q := chkPats_all _ _ _ _ m12 e he
    have q1 := width_kind q.1
    have q2 := width_pos q.1
    exact rdPat_of c s a e hl q1 (by omega) (by omega) (by omega)) _ x8
  have hz2 : (numsBytes 1 [M.major]).length = 1 := rfl
  have hz3 : (numsBytes 1 [M.minor]).length = 1 := rfl
  have hz5 : M.text.data.toList.length = M.text.size := by simp
  rw [hz2] at e3 e4 e5 e6 e7 e8
  rw [hz3] at e4 e5 e6 e7 e8
  rw [hz4] at e5 e6 e7 e8
  rw [hz5] at e6 e7 e8
  have key : ∀ (N : ByteArray × (Nat × Bool)) (A B L : Int × (Nat × Bool)) (T : ByteArray × (Nat × Bool)) (E : List Exp × (Nat × Bool)) (I : List Imp × (Nat × Bool)) (P : List Pat × (Nat × Bool)), rdName c s (0, false) = N → rdNum c s 1 N.2 = A → rdNum c s 1 A.2 = B → rdNum c s 2 B.2 = L → rdPiece c s L.1.toNat L.2 = T → rdMany c s (rdExp c s) T.2 = E → rdMany c s (rdImp c s) E.2 = I → rdMany c s (rdPat c s) I.2 = P →
      rdMod c s (0, false) = (⟨N.1, A.1, B.1, T.1, E.1, I.1, P.1⟩, P.2) := by
    rintro _ _ _ _ _ _ _ _ rfl rfl rfl rfl rfl rfl rfl rfl
    rfl
  have e5' : rdPiece c s ((M.text.size : Int)).toNat (0 + (nameB M.name).length + 1 + 1 + 2, false) = (M.text, (0 + (nameB M.name).length + 1 + 1 + 2 + M.text.size, false)) := by rw [Int.toNat_natCast]; exact e5
  rw [key _ _ _ _ _ _ _ _ e1 e2 e3 e4 e5' e6 e7 e8]
  simp only [List.length_append, hz2, hz3, hz4, hz5, Nat.zero_add, Nat.add_assoc]

/-- Where nothing was missing, the bytes that were read are those of what was read. -/
def Was {α : Type} (s : ByteArray) (f : (Nat × Bool) → α × (Nat × Bool)) (B : α → List UInt8) : Prop := ∀ σ, (f σ).2.2 = false → σ.2 = false ∧ LieAt s σ.1 (B (f σ).1) ∧ (f σ).2 = (σ.1 + (B (f σ).1).length, false)

theorem was_num (c : Bool) (s : ByteArray) (m : Nat) (hm : m = 1 ∨ m = 2) : Was s (rdNum c s m) (fun n => numsBytes m [n]) := by
  intro σ h
  have hl : ∀ n : Int, (numsBytes m [n]).length = m := fun n => by rw [numsBytes_length]; simp
  unfold rdNum at h ⊢
  split at h
  · cases h
  · rename_i hc
    rw [if_neg hc]
    dsimp only at h ⊢
    refine ⟨h, fun i hi => ?_, by rw [hl, h]⟩
    rw [hl] at hi
    have hle : σ.1 + m ≤ s.size := by omega
    rw [byteOf_get s σ.1 m i (by omega) (by omega) hi hle]
    rcases hm with rfl | rfl
    · obtain rfl : i = 0 := by omega
      rfl
    · have : i = 0 ∨ i = 1 := by omega
      rcases this with rfl | rfl <;> rfl
theorem was_piece (c : Bool) (s : ByteArray) (n : Nat) (σ : (Nat × Bool)) (h : (rdPiece c s n σ).2.2 = false) : σ.2 = false ∧ LieAt s σ.1 (rdPiece c s n σ).1.data.toList ∧ (rdPiece c s n σ).2 = (σ.1 + n, false) ∧ (rdPiece c s n σ).1.size = n := by
  unfold rdPiece at h ⊢
  split at h
  · cases h
  · rename_i hc
    rw [if_neg hc]
    dsimp only at h ⊢
    have hle : σ.1 + n ≤ s.size := by omega
    have hsz : (s.extract σ.1 (σ.1 + n)).size = n := by rw [ByteArray.size_extract]; omega
    refine ⟨h, fun i hi => ?_, by rw [h], hsz⟩
    have e1 : (s.extract σ.1 (σ.1 + n)).data.toList = (s.data.toList.drop σ.1).take (σ.1 + n - σ.1) := by
      rw [ByteArray.data_extract, Array.toList_extract, List.extract_eq_take_drop]
    have hl : ∀ X : ByteArray, X.data.toList.length = X.size := fun X => by simp
    rw [hl, hsz] at hi
    rw [e1, List.getElem?_take_of_lt (by omega), List.getElem?_drop]
theorem was_name (c : Bool) (s : ByteArray) : Was s (rdName c s) nameB := by
  intro σ h
  obtain ⟨h1, h2, h3, h4⟩ := was_piece c s _ _ h
  obtain ⟨k1, k2, k3⟩ := was_num c s 1 (.inl rfl) σ h1
  have hb := rdNum_bd c s 1 σ
  have e : (((rdName c s σ).1.size : Nat) : Int) = (rdNum c s 1 σ).1 := by
    show (((rdPiece c s (rdNum c s 1 σ).1.toNat (rdNum c s 1 σ).2).1.size : Nat) : Int) = _
    rw [h4]; omega
  have e2 : (rdNum c s 1 σ).2.1 = σ.1 + 1 := by rw [k3]; rfl
  have h2' : LieAt s (rdNum c s 1 σ).2.1 (rdName c s σ).1.data.toList := h2
  have h3' : (rdName c s σ).2 = ((rdNum c s 1 σ).2.1 + (rdNum c s 1 σ).1.toNat, false) := h3
  rw [e2] at h2' h3'
  refine ⟨k1, ?_, ?_⟩
  · unfold nameB
    rw [e]
    exact LieAt.append.2 ⟨k2, h2'⟩
  · rw [h3', nameB_length]
    congr 1
    omega

theorem was_two {α β : Type} {s : ByteArray} {f : (Nat × Bool) → α × (Nat × Bool)} {B : α → List UInt8} {g : (Nat × Bool) → β × (Nat × Bool)} {C : β → List UInt8} (hf : Was s f B) (hg : Was s g C) (σ : (Nat × Bool)) (h : (g (f σ).2).2.2 = false) :
    σ.2 = false ∧ LieAt s σ.1 (B (f σ).1 ++ C (g (f σ).2).1) ∧ (g (f σ).2).2 = (σ.1 + (B (f σ).1 ++ C (g (f σ).2).1).length, false) := by
  obtain ⟨h1, h2, h3⟩ := hg _ h
  obtain ⟨k1, k2, k3⟩ := hf σ h1
  have e : (f σ).2.1 = σ.1 + (B (f σ).1).length := by rw [k3]
  rw [e] at h2 h3
  exact ⟨k1, LieAt.append.2 ⟨k2, h2⟩, by rw [h3, List.length_append, Nat.add_assoc]⟩

theorem was_exp (c : Bool) (s : ByteArray) : Was s (rdExp c s) expB := fun σ h => was_two (was_name c s) (was_num c s 2 (.inr rfl)) σ h
/-- One behind the other. -/
theorem Was.seq {α β γ : Type} {s : ByteArray} {f : (Nat × Bool) → α × (Nat × Bool)} {B : α → List UInt8} {g : (Nat × Bool) → β × (Nat × Bool)} {C : β → List UInt8} (hf : Was s f B) (hg : Was s g C) (k : α → β → γ) (D : γ → List UInt8) (hD : ∀ x y, D (k x y) = B x ++ C y) :
    Was s (fun σ => (k (f σ).1 (g (f σ).2).1, (g (f σ).2).2)) D := by
  intro σ h
  have := was_two hf hg σ h
  dsimp only
  rw [hD]
  exact this
theorem was_imp (c : Bool) (s : ByteArray) : Was s (rdImp c s) impB := by
  have h1 := (was_name c s).seq (was_name c s) (fun m n => (m, n)) (fun p => nameB p.1 ++ nameB p.2) (fun _ _ => rfl)
  have h2 := (was_num c s 1 (.inl rfl)).seq (was_num c s 1 (.inl rfl)) (fun a b => (a, b)) (fun p => numsBytes 1 [p.1, p.2]) (fun _ _ => numsBytes_two _ _ _)
  exact h1.seq h2 (fun p q => (⟨p.1, p.2, q.1, q.2⟩ : Imp)) impB (fun _ _ => rfl)
theorem was_pat (c : Bool) (s : ByteArray) : Was s (rdPat c s) patB := by
  have h1 := (was_num c s 1 (.inl rfl)).seq (was_num c s 2 (.inr rfl)) (fun a b => (a, b)) (fun p => numsBytes 1 [p.1] ++ numsBytes 2 [p.2]) (fun _ _ => rfl)
  have h2 := h1.seq (was_num c s 1 (.inl rfl)) (fun p y => (p, y - 1)) (fun q => numsBytes 1 [q.1.1] ++ numsBytes 2 [q.1.2] ++ numsBytes 1 [q.2 + 1]) (fun p y => by simp only [Int.sub_add_cancel])
  exact h2.seq (was_num c s 2 (.inr rfl)) (fun q d => (⟨q.1.1, q.1.2, q.2, d⟩ : Pat)) patB (fun _ _ => rfl)

theorem was_times {α : Type} {s : ByteArray} {f : (Nat × Bool) → α × (Nat × Bool)} {B : α → List UInt8} (hf : Was s f B) (σ : (Nat × Bool)) : ∀ k, (rdTimes f k ([], σ)).2.2 = false → σ.2 = false ∧ LieAt s σ.1 ((rdTimes f k ([], σ)).1.flatMap B) ∧ (rdTimes f k ([], σ)).2 = (σ.1 + ((rdTimes f k ([], σ)).1.flatMap B).length, false) ∧ (rdTimes f k ([], σ)).1.length = k
  | 0, h => ⟨h, LieAt.nil _ _, Prod.ext rfl h, rfl⟩
  | k + 1, h => by
    cases e : (rdTimes f k ([], σ)).2.2 with
    | true =>
      have e2 : rdTimes f (k + 1) ([], σ) = rdTimes f k ([], σ) := by
        show rdStep f (rdTimes f k ([], σ)) = _
        rw [rdStep, if_pos e]
      rw [e2, e] at h
      cases h
    | false =>
      obtain ⟨h1, h2, h3, h4⟩ := was_times hf σ k e
      rw [rdTimes_next f _ k e] at h ⊢
      dsimp only at h ⊢
      obtain ⟨k1, k2, k3⟩ := hf _ h
      have e1 : (rdTimes f k ([], σ)).2.1 = σ.1 + ((rdTimes f k ([], σ)).1.flatMap B).length := by rw [h3]
      rw [e1] at k2 k3
      rw [List.flatMap_append, List.flatMap_singleton]
      exact ⟨h1, LieAt.append.2 ⟨h2, k2⟩, by rw [k3, List.length_append, Nat.add_assoc], by rw [List.length_append, h4]; rfl⟩
theorem was_many {α : Type} {s : ByteArray} (c : Bool) {f : (Nat × Bool) → α × (Nat × Bool)} {B : α → List UInt8} (hf : Was s f B) : Was s (rdMany c s f) (fun l => numsBytes 1 [(l.length : Int)] ++ l.flatMap B) := by
  intro σ h
  obtain ⟨h1, h2, h3, h4⟩ := was_times hf (rdNum c s 1 σ).2 (rdNum c s 1 σ).1.toNat h
  obtain ⟨k1, k2, k3⟩ := was_num c s 1 (.inl rfl) σ h1
  have hb := rdNum_bd c s 1 σ
  have e : (((rdMany c s f σ).1.length : Nat) : Int) = (rdNum c s 1 σ).1 := by
    show (((rdTimes f (rdNum c s 1 σ).1.toNat ([], (rdNum c s 1 σ).2)).1.length : Nat) : Int) = _
    rw [h4]; omega
  have e2 : (rdNum c s 1 σ).2.1 = σ.1 + 1 := by rw [k3]; rfl
  have h2' : LieAt s (rdNum c s 1 σ).2.1 ((rdMany c s f σ).1.flatMap B) := h2
  have h3' : (rdMany c s f σ).2 = ((rdNum c s 1 σ).2.1 + ((rdMany c s f σ).1.flatMap B).length, false) := h3
  rw [e2] at h2' h3'
  dsimp only
  rw [e]
  exact ⟨k1, LieAt.append.2 ⟨k2, h2'⟩, by rw [h3', List.length_append, Nat.add_assoc]; rfl⟩

/-- What was read of all was encoded so. -/
theorem enc_of_read (c : Bool) (s : ByteArray) (h : (rdMod c s (0, false)).2 = (s.size, false)) : encS (rdMod c s (0, false)).1 = s := by
  have w1 := (was_name c s).seq (was_num c s 1 (.inl rfl)) (fun n a => (n, a)) (fun p => nameB p.1 ++ numsBytes 1 [p.2]) (fun _ _ => rfl)
  have w2 := w1.seq (was_num c s 1 (.inl rfl)) (fun p b => (p, b)) (fun p => nameB p.1.1 ++ numsBytes 1 [p.1.2] ++ numsBytes 1 [p.2]) (fun _ _ => rfl)
  have wt : Was s (fun σ => rdPiece c s (rdNum c s 2 σ).1.toNat (rdNum c s 2 σ).2) (fun t => numsBytes 2 [(t.size : Int)] ++ t.data.toList) := by
    intro σ h
    obtain ⟨h1, h2, h3, h4⟩ := was_piece c s _ _ h
    obtain ⟨k1, k2, k3⟩ := was_num c s 2 (.inr rfl) σ h1
    have hb := rdNum_bd c s 2 σ
    dsimp only at h3 h4 ⊢
    rw [h4, Int.toNat_of_nonneg hb.1]
    have e2 : (rdNum c s 2 σ).2.1 = σ.1 + 2 := by rw [k3]; rfl
    rw [e2] at h2 h3
    have hl : ∀ X : ByteArray, X.data.toList.length = X.size := fun X => by simp
    refine ⟨k1, LieAt.append.2 ⟨k2, h2⟩, ?_⟩
    rw [h3, List.length_append, hl, h4, Nat.add_assoc]; rfl
  have w3 := w2.seq wt (fun p t => (p, t)) (fun p => nameB p.1.1.1 ++ numsBytes 1 [p.1.1.2] ++ numsBytes 1 [p.1.2] ++ (numsBytes 2 [(p.2.size : Int)] ++ p.2.data.toList)) (fun _ _ => rfl)
  have w4 := (was_many c (was_imp c s)).seq (was_many c (was_pat c s)) (fun i p => (i, p)) (fun q => (numsBytes 1 [(q.1.length : Int)] ++ q.1.flatMap impB) ++ (numsBytes 1 [(q.2.length : Int)] ++ q.2.flatMap patB)) (fun _ _ => rfl)
  have w5 := (was_many c (was_exp c s)).seq w4 (fun e q => (e, q)) (fun r => (numsBytes 1 [(r.1.length : Int)] ++ r.1.flatMap expB) ++ ((numsBytes 1 [(r.2.1.length : Int)] ++ r.2.1.flatMap impB) ++ (numsBytes 1 [(r.2.2.length : Int)] ++ r.2.2.flatMap patB))) (fun _ _ => rfl)
  have w6 := w3.seq w5 (fun p r => (⟨p.1.1.1, p.1.1.2, p.1.2, p.2, r.1, r.2.1, r.2.2⟩ : Mod)) encL (fun p r => by rw [encL_form]; simp only [List.append_assoc])
  obtain ⟨_, h2, h3⟩ : _ ∧ LieAt s 0 (encL (rdMod c s (0, false)).1) ∧ (rdMod c s (0, false)).2 = (0 + (encL (rdMod c s (0, false)).1).length, false) := w6 (0, false) (by have := congrArg Prod.snd h; exact this)
  rw [h3] at h
  have hl : (encL (rdMod c s (0, false)).1).length = s.size := by have := congrArg Prod.fst h; simpa using this
  have hs : s.data.toList.length = s.size := by simp
  have e : encL (rdMod c s (0, false)).1 = s.data.toList := by
    refine List.ext_getElem? (fun i => ?_)
    by_cases hi : i < s.size
    · have := h2 i (by omega)
      rw [Nat.zero_add] at this
      exact this.symm
    · rw [List.getElem?_eq_none (by omega), List.getElem?_eq_none (by omega)]
  show toBa (encL (rdMod c s (0, false)).1) = s
  rw [e]
  rfl

theorem lie_self (l : List UInt8) : LieAt (toBa l) 0 l := fun i _ => by rw [Nat.zero_add]; rfl

end Go.Proofs.Ytaklbnabgcglhaa
