/- Texts that are laid together. -/
import Derived.Test.YtppmihnbpmkbnadGreatMrgQ
import Derived.Shelf.RegionOpenPlain
import Derived.Lib.SliceRun
import Derived.Lib.Walk
import Derived.Test.YtppmihnbpmkbnadGreatMrgR
import Derived.Test.YtppmihnbpmkbnadGreatMrgI
import Derived.Test.YtppmihnbpmkbnadGreatMrgB
import Derived.ProofKit
import Derived.OpenShut
import Derived.ShutString
import Derived.ChangeOld
import Derived.SizedLaws
import Derived.Below
import Derived.Carry
import Derived.Deep.Slices
import Derived.Test.YtppmihnbpmkbnadGreatMrgC

/- The contracts of slices.Clone at exports, imports, patches and placed modules: a row of one's own. -/
namespace Go.Proofs.YtppmihnbpmkbnadGreat
open Go.RowKit Go.PlainAid Go.Lib

set_option maxRecDepth 100000

theorem add_none (b off j : Nat) : (⟨b, off, none⟩ : Addr).add j = ⟨b, off + j, none⟩ := by unfold Addr.add; split <;> simp_all

theorem infoExpC : (Tryz.prog.info? 120).map (fun i => (i.zero, i.size, i.bytes)) = some (some (.agg #[.string ⟨#[]⟩, .int .i64 0]), 2, 24) := by kernel_rfl
theorem infoExp_parts : ∃ i, Tryz.prog.info? 120 = some i ∧ i.zero = some (.agg #[.string ⟨#[]⟩, .int .i64 0]) ∧ i.size = 2 ∧ i.bytes = 24 := by
  have h := infoExpC
  cases hi : Tryz.prog.info? 120 with
  | none => rw [hi] at h; cases h
  | some i =>
    rw [hi] at h
    simp at h
    exact ⟨i, rfl, h.1, h.2.1, h.2.2⟩
theorem oneExp (l : List Exp) : ∀ u ∈ l.flatMap expC, u.oneCell' = true := by
  intro u hu
  obtain ⟨x, _, hx⟩ := List.mem_flatMap.1 hu
  simp only [expC, List.mem_cons, List.not_mem_nil, or_false] at hx
  rcases hx with rfl | rfl <;> rfl
set_option maxHeartbeats 2000000 in
theorem cloneExp_any (l : List Exp) (v : Value) (w : World) (h : RowOf 2 Exp.cell w.heap.size w v l) (hl : l.length ≤ 255) :
    Calls Tryz.prog 88 #[v] w fun e w' => (∃ r, e = .returned r ∧ w'.ownsRow w.heap.size 120 2 r l.length (l.flatMap expC)) ∧ Below w.heap.size w w' := by
  obtain ⟨i0, hi0, hz0, hz1, hz2⟩ := infoExp_parts
  obtain ⟨a, cap, rfl, _, h⟩ := h
  have q0 : ∀ (w : World) (a : Option Addr) (n c n' c' : Nat), (binOp .eql 22 (.slice a n c) (.slice none n' c')).run Tryz.prog w = .ok (.bool a.isNone) w := fun w a n c n' c' => Lib.run_eql_slice_nil w _ _ a n c n' c' Tryz.underlying22
  have HN : Hid (∀ ad, a = some ad → ∀ j u, (l.flatMap expC)[j]? = some u → w.cell? (ad.add j) = some u) := by
    intro ad ha j u hu
    rcases h with h | ⟨b, off, rfl, hbn, hcells⟩
    · subst h; simp at hu
    · obtain rfl := Option.some.inj ha
      exact news_row (C := expC) (cells := Exp.cell) (sz := 2) (by decide) (fun _ => rfl) expC_at hcells j u hu
  have HL : Hid ((l.flatMap expC).length = l.length * 2) := flat_len (C := expC) (sz := 2) (fun _ => rfl) l
  have HO : Hid (∀ u ∈ l.flatMap expC, u.oneCell' = true) := (oneExp l)
  have HE : Hid (a = none → l = []) := fun e => by
    rcases h with h | ⟨b, off, h, _⟩
    · exact h
    · rw [e] at h; cases h
  clear h
  rcases a with _ | ad
  · have := HE.out rfl
    subst this
    clear HN HL HO HE
    go_enter Tryz.func88, Tryz.ntmps88
    go_wp2
    go_ret
    exact ⟨⟨_, rfl, World.ownsRow_nil _ _ _ _⟩, Below.refl _ _⟩
  · have HN2 : Hid (∀ j u, (l.flatMap expC)[j]? = some u → w.cell? (ad.add j) = some u) := HN.out ad rfl
    clear HN HE
    generalize l.flatMap expC = news at *
    go_enter Tryz.func88, Tryz.ntmps88
    go_wp2_with (at_builtin; refine wpList_append_own _ rfl _ _ 22 rfl w.heap.size 120 i0 (.agg #[.string ⟨#[]⟩, .int .i64 0]) 2 24 Tryz.underlying22 hi0 hz0 hz1 hz2 rfl (by decide) _ _ _ rfl (World.ownsRow_made w #[] 0 (Nat.le_refl _) (Nat.zero_le _) (by simp)) ad l.length cap news rfl ?qc1 ?qc2 ?qc3 ?qc4 ?qc5 ?qc6 ?_)
    case qc1 => exact HL.out
    case qc2 =>
      intro j u hj
      exact Lib.cell?_alloc_some _ (HN2.out j u hj)
    case qc3 => exact HO.out
    case qc4 => unfold maxLen; omega
    case qc5 => omega
    case qc6 => simp
    intro v' w1 hown hgrow hnil
    go_wp2
    go_ret
    refine ⟨⟨v', rfl, by simpa using hown⟩, ?_⟩
    exact ((Below.refl _ w).alloc (Nat.le_refl _) _).grown hgrow (by simp) (by intro k hk; simp [Value.ownBlock] at hk; omega)

theorem infoImpC : (Tryz.prog.info? 84).map (fun i => (i.zero, i.size, i.bytes)) = some (some (.agg #[.string ⟨#[]⟩, .string ⟨#[]⟩, .int .i64 0, .int .i64 0]), 4, 48) := by kernel_rfl
theorem infoImp_parts : ∃ i, Tryz.prog.info? 84 = some i ∧ i.zero = some (.agg #[.string ⟨#[]⟩, .string ⟨#[]⟩, .int .i64 0, .int .i64 0]) ∧ i.size = 4 ∧ i.bytes = 48 := by
  have h := infoImpC
  cases hi : Tryz.prog.info? 84 with
  | none => rw [hi] at h; cases h
  | some i =>
    rw [hi] at h
    simp at h
    exact ⟨i, rfl, h.1, h.2.1, h.2.2⟩
theorem oneImp (l : List Imp) : ∀ u ∈ l.flatMap impC, u.oneCell' = true := by
  intro u hu
  obtain ⟨x, _, hx⟩ := List.mem_flatMap.1 hu
  simp only [impC, List.mem_cons, List.not_mem_nil, or_false] at hx
  rcases hx with rfl | rfl | rfl | rfl <;> rfl
set_option maxHeartbeats 2000000 in
theorem cloneImp_any (l : List Imp) (v : Value) (w : World) (h : RowOf 4 Imp.cell w.heap.size w v l) (hl : l.length ≤ 255) :
    Calls Tryz.prog 89 #[v] w fun e w' => (∃ r, e = .returned r ∧ w'.ownsRow w.heap.size 84 4 r l.length (l.flatMap impC)) ∧ Below w.heap.size w w' := by
  obtain ⟨i0, hi0, hz0, hz1, hz2⟩ := infoImp_parts
  obtain ⟨a, cap, rfl, _, h⟩ := h
  have q0 : ∀ (w : World) (a : Option Addr) (n c n' c' : Nat), (binOp .eql 36 (.slice a n c) (.slice none n' c')).run Tryz.prog w = .ok (.bool a.isNone) w := fun w a n c n' c' => Lib.run_eql_slice_nil w _ _ a n c n' c' Tryz.underlying36
  have HN : Hid (∀ ad, a = some ad → ∀ j u, (l.flatMap impC)[j]? = some u → w.cell? (ad.add j) = some u) := by
    intro ad ha j u hu
    rcases h with h | ⟨b, off, rfl, hbn, hcells⟩
    · subst h; simp at hu
    · obtain rfl := Option.some.inj ha
      exact news_row (C := impC) (cells := Imp.cell) (sz := 4) (by decide) (fun _ => rfl) impC_at hcells j u hu
  have HL : Hid ((l.flatMap impC).length = l.length * 4) := flat_len (C := impC) (sz := 4) (fun _ => rfl) l
  have HO : Hid (∀ u ∈ l.flatMap impC, u.oneCell' = true) := (oneImp l)
  have HE : Hid (a = none → l = []) := fun e => by
    rcases h with h | ⟨b, off, h, _⟩
    · exact h
    · rw [e] at h; cases h
  clear h
  rcases a with _ | ad
  · have := HE.out rfl
    subst this
    clear HN HL HO HE
    go_enter Tryz.func89, Tryz.ntmps89
    go_wp2
    go_ret
    exact ⟨⟨_, rfl, World.ownsRow_nil _ _ _ _⟩, Below.refl _ _⟩
  · have HN2 : Hid (∀ j u, (l.flatMap impC)[j]? = some u → w.cell? (ad.add j) = some u) := HN.out ad rfl
    clear HN HE
    generalize l.flatMap impC = news at *
    go_enter Tryz.func89, Tryz.ntmps89
    go_wp2_with (at_builtin; refine wpList_append_own _ rfl _ _ 36 rfl w.heap.size 84 i0 (.agg #[.string ⟨#[]⟩, .string ⟨#[]⟩, .int .i64 0, .int .i64 0]) 4 48 Tryz.underlying36 hi0 hz0 hz1 hz2 rfl (by decide) _ _ _ rfl (World.ownsRow_made w #[] 0 (Nat.le_refl _) (Nat.zero_le _) (by simp)) ad l.length cap news rfl ?qc1 ?qc2 ?qc3 ?qc4 ?qc5 ?qc6 ?_)
    case qc1 => exact HL.out
    case qc2 =>
      intro j u hj
      exact Lib.cell?_alloc_some _ (HN2.out j u hj)
    case qc3 => exact HO.out
    case qc4 => unfold maxLen; omega
    case qc5 => omega
    case qc6 => simp
    intro v' w1 hown hgrow hnil
    go_wp2
    go_ret
    refine ⟨⟨v', rfl, by simpa using hown⟩, ?_⟩
    exact ((Below.refl _ w).alloc (Nat.le_refl _) _).grown hgrow (by simp) (by intro k hk; simp [Value.ownBlock] at hk; omega)

theorem infoPatC : (Tryz.prog.info? 43).map (fun i => (i.zero, i.size, i.bytes)) = some (some (.agg #[.int .i64 0, .int .i64 0, .int .i64 0, .int .i64 0]), 4, 32) := by kernel_rfl
theorem infoPat_parts : ∃ i, Tryz.prog.info? 43 = some i ∧ i.zero = some (.agg #[.int .i64 0, .int .i64 0, .int .i64 0, .int .i64 0]) ∧ i.size = 4 ∧ i.bytes = 32 := by
  have h := infoPatC
  cases hi : Tryz.prog.info? 43 with
  | none => rw [hi] at h; cases h
  | some i =>
    rw [hi] at h
    simp at h
    exact ⟨i, rfl, h.1, h.2.1, h.2.2⟩
theorem onePat (l : List Pat) : ∀ u ∈ l.flatMap patC, u.oneCell' = true := by
  intro u hu
  obtain ⟨x, _, hx⟩ := List.mem_flatMap.1 hu
  simp only [patC, List.mem_cons, List.not_mem_nil, or_false] at hx
  rcases hx with rfl | rfl | rfl | rfl <;> rfl
set_option maxHeartbeats 2000000 in
theorem clonePat_any (l : List Pat) (v : Value) (w : World) (h : RowOf 4 Pat.cell w.heap.size w v l) (hl : l.length ≤ 255) :
    Calls Tryz.prog 90 #[v] w fun e w' => (∃ r, e = .returned r ∧ w'.ownsRow w.heap.size 43 4 r l.length (l.flatMap patC)) ∧ Below w.heap.size w w' := by
  obtain ⟨i0, hi0, hz0, hz1, hz2⟩ := infoPat_parts
  obtain ⟨a, cap, rfl, _, h⟩ := h
  have q0 : ∀ (w : World) (a : Option Addr) (n c n' c' : Nat), (binOp .eql 37 (.slice a n c) (.slice none n' c')).run Tryz.prog w = .ok (.bool a.isNone) w := fun w a n c n' c' => Lib.run_eql_slice_nil w _ _ a n c n' c' Tryz.underlying37
  have HN : Hid (∀ ad, a = some ad → ∀ j u, (l.flatMap patC)[j]? = some u → w.cell? (ad.add j) = some u) := by
    intro ad ha j u hu
    rcases h with h | ⟨b, off, rfl, hbn, hcells⟩
    · subst h; simp at hu
    · obtain rfl := Option.some.inj ha
      exact news_row (C := patC) (cells := Pat.cell) (sz := 4) (by decide) (fun _ => rfl) patC_at hcells j u hu
  have HL : Hid ((l.flatMap patC).length = l.length * 4) := flat_len (C := patC) (sz := 4) (fun _ => rfl) l
  have HO : Hid (∀ u ∈ l.flatMap patC, u.oneCell' = true) := (onePat l)
  have HE : Hid (a = none → l = []) := fun e => by
    rcases h with h | ⟨b, off, h, _⟩
    · exact h
    · rw [e] at h; cases h
  clear h
  rcases a with _ | ad
  · have := HE.out rfl
    subst this
    clear HN HL HO HE
    go_enter Tryz.func90, Tryz.ntmps90
    go_wp2
    go_ret
    exact ⟨⟨_, rfl, World.ownsRow_nil _ _ _ _⟩, Below.refl _ _⟩
  · have HN2 : Hid (∀ j u, (l.flatMap patC)[j]? = some u → w.cell? (ad.add j) = some u) := HN.out ad rfl
    clear HN HE
    generalize l.flatMap patC = news at *
    go_enter Tryz.func90, Tryz.ntmps90
    go_wp2_with (at_builtin; refine wpList_append_own _ rfl _ _ 37 rfl w.heap.size 43 i0 (.agg #[.int .i64 0, .int .i64 0, .int .i64 0, .int .i64 0]) 4 32 Tryz.underlying37 hi0 hz0 hz1 hz2 rfl (by decide) _ _ _ rfl (World.ownsRow_made w #[] 0 (Nat.le_refl _) (Nat.zero_le _) (by simp)) ad l.length cap news rfl ?qc1 ?qc2 ?qc3 ?qc4 ?qc5 ?qc6 ?_)
    case qc1 => exact HL.out
    case qc2 =>
      intro j u hj
      exact Lib.cell?_alloc_some _ (HN2.out j u hj)
    case qc3 => exact HO.out
    case qc4 => unfold maxLen; omega
    case qc5 => omega
    case qc6 => simp
    intro v' w1 hown hgrow hnil
    go_wp2
    go_ret
    refine ⟨⟨v', rfl, by simpa using hown⟩, ?_⟩
    exact ((Below.refl _ w).alloc (Nat.le_refl _) _).grown hgrow (by simp) (by intro k hk; simp [Value.ownBlock] at hk; omega)

set_option maxHeartbeats 2000000 in
theorem clonePlc_any (l : List PV) (v : Value) (w : World) (h : RowOf 8 PV.cell w.heap.size w v l) (hl : l.length ≤ 255) (hone : ∀ u ∈ l.flatMap pvC, u.oneCell' = true) :
    Calls Tryz.prog 152 #[v] w fun e w' => (∃ r, e = .returned r ∧ w'.ownsRow w.heap.size 41 8 r l.length (l.flatMap pvC)) ∧ Below w.heap.size w w' := by
  obtain ⟨i0, hi0, hz0, hz1, hz2⟩ := infoPlc_parts
  obtain ⟨a, cap, rfl, _, h⟩ := h
  have q0 : ∀ (w : World) (a : Option Addr) (n c n' c' : Nat), (binOp .eql 25 (.slice a n c) (.slice none n' c')).run Tryz.prog w = .ok (.bool a.isNone) w := fun w a n c n' c' => Lib.run_eql_slice_nil w _ _ a n c n' c' Tryz.underlying25
  have HN : Hid (∀ ad, a = some ad → ∀ j u, (l.flatMap pvC)[j]? = some u → w.cell? (ad.add j) = some u) := by
    intro ad ha j u hu
    rcases h with h | ⟨b, off, rfl, hbn, hcells⟩
    · subst h; simp at hu
    · obtain rfl := Option.some.inj ha
      exact news_row (C := pvC) (cells := PV.cell) (sz := 8) (by decide) (fun _ => rfl) pvC_at hcells j u hu
  have HL : Hid ((l.flatMap pvC).length = l.length * 8) := flat_len (C := pvC) (sz := 8) (fun _ => rfl) l
  have HO : Hid (∀ u ∈ l.flatMap pvC, u.oneCell' = true) := hone
  have HE : Hid (a = none → l = []) := fun e => by
    rcases h with h | ⟨b, off, h, _⟩
    · exact h
    · rw [e] at h; cases h
  clear h
  rcases a with _ | ad
  · have := HE.out rfl
    subst this
    clear HN HL HO HE
    go_enter Tryz.func152, Tryz.ntmps152
    go_wp2
    go_ret
    exact ⟨⟨_, rfl, World.ownsRow_nil _ _ _ _⟩, Below.refl _ _⟩
  · have HN2 : Hid (∀ j u, (l.flatMap pvC)[j]? = some u → w.cell? (ad.add j) = some u) := HN.out ad rfl
    clear HN HE
    generalize l.flatMap pvC = news at *
    go_enter Tryz.func152, Tryz.ntmps152
    go_wp2_with (at_builtin; refine wpList_append_own _ rfl _ _ 25 rfl w.heap.size 41 i0 _ 8 128 Tryz.underlying25 hi0 hz0 hz1 hz2 rfl (by decide) _ _ _ rfl (World.ownsRow_made w #[] 0 (Nat.le_refl _) (Nat.zero_le _) (by simp)) ad l.length cap news rfl ?qc1 ?qc2 ?qc3 ?qc4 ?qc5 ?qc6 ?_)
    case qc1 => exact HL.out
    case qc2 =>
      intro j u hj
      exact Lib.cell?_alloc_some _ (HN2.out j u hj)
    case qc3 => exact HO.out
    case qc4 => unfold maxLen; omega
    case qc5 => omega
    case qc6 => simp
    intro v' w1 hown hgrow hnil
    go_wp2
    go_ret
    refine ⟨⟨v', rfl, by simpa using hown⟩, ?_⟩
    exact ((Below.refl _ w).alloc (Nat.le_refl _) _).grown hgrow (by simp) (by intro k hk; simp [Value.ownBlock] at hk; omega)

end Go.Proofs.YtppmihnbpmkbnadGreat

/- The walk of the law LinkAlone: it returns true. -/
namespace Go.Proofs.YtppmihnbpmkbnadGreat.linkAlone
open Go.RowKit Go.PlainAid Go.Lib

set_option maxRecDepth 100000

def retext (x : PV) (t : ByteArray) : PV := ⟨⟨x.mod.name, x.mod.major, x.mod.minor, t, x.mod.exps, x.mod.imps, x.mod.pats⟩, x.ve, x.vi, x.vp, x.first⟩
theorem retext_blur {l : List PV} {n : Nat} {x : PV} {t : ByteArray} (hx : l[n]? = some x) (ht : t.size = x.mod.text.size) : ((l.set n (retext x t)).map PV.plc).map blur = (l.map PV.plc).map blur := by
  have hb : blur (retext x t).plc = blur x.plc := by
    unfold blur blurM retext PV.plc
    dsimp only
    rw [ht]
  apply List.ext_getElem?
  intro i
  simp only [List.getElem?_map, List.getElem?_set]
  by_cases hi : n = i
  · subst hi
    rw [if_pos rfl, hx]
    have hlt := (List.getElem?_eq_some_iff.1 hx).1
    rw [if_pos hlt]
    show some (blur (retext x t).plc) = some (blur x.plc)
    rw [hb]
  · rw [if_neg hi]
theorem flat_set {α : Type} {C : α → List Value} {sz : Nat} (hC : ∀ x, (C x).length = sz) : ∀ (l : List α) (k : Nat) (x y : α) (i : Nat) (u : Value), l[k]? = some x → i < sz → (C x).set i u = C y → (l.flatMap C).set (k * sz + i) u = (l.set k y).flatMap C
  | [], k, x, y, i, u, h, _, _ => by simp at h
  | z :: l, 0, x, y, i, u, h, hi, he => by
    obtain rfl : z = x := by simpa using h
    rw [List.flatMap_cons, Nat.zero_mul, Nat.zero_add, List.set_append_left _ _ (by rw [hC]; exact hi), he]
    rfl
  | z :: l, k + 1, x, y, i, u, h, hi, he => by
    have h' : l[k]? = some x := by simpa using h
    have hz := hC z
    rw [List.flatMap_cons, List.set_append_right _ _ (by rw [hz, Nat.succ_mul]; omega), hz, show (k + 1) * sz + i - sz = k * sz + i by rw [Nat.succ_mul]; omega, flat_set hC l k x y i u h' hi he]
    rfl
theorem retext_cells (x : PV) (t : ByteArray) : (pvC x).set 3 (.string t) = pvC (retext x t) := rfl
theorem mem_set_of {l : List PV} {n j : Nat} {a y : PV} (hy : l[j]? = some y) (hne : n ≠ j) : y ∈ l.set n a := by
  refine List.mem_of_getElem? (i := j) ?_
  rw [List.getElem?_set_ne hne]
  exact hy

set_option maxHeartbeats 16000000 in
theorem walk (K : Ker) (vk : Value) (l : List PV) (v : Value) (n : Int) (text : ByteArray) (w : World) (hK : IsKer w.heap.size w vk K) (hf : K.fits) (hrow : IsPlcs w.heap.size w v l) (hfit : ∀ x ∈ l, x.mod.fits) (_ : (Lit.int .i64 n).wf = true) (_ : text.size ≤ 140737488351232) (hsz : ∀ a n c, v = .slice a n c → n * 128 ≤ 140737488351232) :
    Calls Tryz.prog 5 #[vk, v, .int .i64 n, .string text] w fun e w' => e = .returned (.bool true) ∧ Below w.heap.size w w' := by
  have HI : Hid (∀ x W, Below w.heap.size w W → Calls Tryz.prog 9 #[vk, v, .string x] W fun e w' => e = .returned (.tuple #[.string (imageOf K (l.map PV.plc) x).1, .int .i64 (imageOf K (l.map PV.plc) x).2]) ∧ Below W.heap.size W w') := fun x W hb => linkImage_any K vk l v x W ((hK.below hb).more hb.size) hf ((hrow.below hb).more hb.size) hfit
  have HJ : Hid (∀ (k : Nat) x, l[k]? = some x → text.size = x.mod.text.size → ∀ (j : Nat) y, l[j]? = some y → k ≠ j → ∀ vm W, Below w.heap.size w W → RowOf 8 PV.cell W.heap.size W vm (l.set k (retext x text)) → Calls Tryz.prog 9 #[vk, vm, .string y.mod.name] W fun e w' => e = .returned (.tuple #[.string (imageOf K (l.map PV.plc) y.mod.name).1, .int .i64 (imageOf K (l.map PV.plc) y.mod.name).2]) ∧ Below W.heap.size W w') := by
    intro k x hx ht j y hy hne vm W hb hr
    have hmem : ∀ z ∈ l.set k (retext x text), z ∈ l ∨ z = retext x text := fun z hz => List.mem_or_eq_of_mem_set hz
    have hxm := List.mem_of_getElem? hx
    have := linkImage_any K vk (l.set k (retext x text)) vm y.mod.name W ((hK.below hb).more hb.size) hf ⟨hr, fun z hz => by
      rcases hmem z hz with h | h
      · exact ((hrow.2 z h).below hb).more hb.size
      · rw [h]
        exact ((hrow.2 x hxm).below hb).more hb.size⟩ (fun z hz => by
      rcases hmem z hz with h | h
      · exact hfit z h
      · rw [h]
        obtain ⟨f1, f2, f3, f4⟩ := hfit x hxm
        exact ⟨f1, by show text.size ≤ _; rw [ht]; exact f2, f3, f4⟩)
    have he : imageOf K ((l.set k (retext x text)).map PV.plc) y.mod.name = imageOf K (l.map PV.plc) y.mod.name := image_alone K (L := l.map PV.plc) (L' := (l.set k (retext x text)).map PV.plc) (retext_blur hx ht) (p := y.plc) (List.mem_map.2 ⟨y, List.mem_of_getElem? hy, rfl⟩) (List.mem_map.2 ⟨y, mem_set_of hy hne, rfl⟩)
    rw [he] at this
    exact this
  have HONE : Hid (∀ u ∈ l.flatMap pvC, u.oneCell' = true) := pvs_one hrow.2
  obtain ⟨i0, hi0, hz0, hz1, hz2⟩ := infoPlc_parts
  obtain ⟨vke, rfl, hE⟩ := hK
  obtain ⟨qe, je, rfl, -, -⟩ := hE
  obtain ⟨⟨a, cap, rfl, hmax, hrow⟩, -⟩ := hrow
  have h128 := hsz _ _ _ rfl
  clear hf hfit hsz
  generalize imageOf K (l.map PV.plc) = IM at *
  obtain ⟨ma, mi, ks⟩ := K
  dsimp only at *
  generalize ks.length = lk at *
  have BB : Below w.heap.size w (w.alloc (.cells #[.int .i64 ma, .int .i64 mi, .slice qe lk je] 24)) := (Below.refl _ _).alloc (Nat.le_refl _) _
  have KB : CellsAt (w.alloc (.cells #[.int .i64 ma, .int .i64 mi, .slice qe lk je] 24)) w.heap.size 24 #[.int .i64 ma, .int .i64 mi, .slice qe lk je] := CellsAt.new w 24 #[.int .i64 ma, .int .i64 mi, .slice qe lk je]
  go_enter Tryz.func5, Tryz.ntmps5
  go_wp2_with fail
  refine (linkBegun_any _).mono ?_
  rintro e w1 ⟨rfl, b⟩
  replace KB := CellsAt.below KB b (CellsAt.lt KB)
  replace BB := BB.trans (b.mono BB.size)
  clear b
  by_cases hn0 : n < 0
  · clear HI HJ HONE hrow
    go_wp2
    go_ret
    exact ⟨rfl, BB⟩
  by_cases hn1 : (l.length : Int) ≤ n
  · clear HI HJ HONE hrow
    go_wp2
    go_ret
    exact ⟨rfl, BB⟩
  obtain ⟨k, rfl⟩ : ∃ k : Nat, n = (k : Int) := ⟨n.toNat, by omega⟩
  have hlt : k < l.length := by omega
  clear hn0 hn1
  obtain ⟨x, hx⟩ : ∃ x, l[k]? = some x := ⟨_, List.getElem?_eq_getElem hlt⟩
  rcases hrow with h | ⟨b, off, rfl, hbn, hcells⟩
  · subst h; simp at hlt
  have cx := (BB.cell (p := ⟨b, off + k * 8 + 3, none⟩) hbn).trans (hcells k _ hx 3 (by omega))
  dsimp only [PV.cell] at cx
  have hkl : (k : Int) < (l.length : Int) := by omega
  have hk0 : ¬ (k : Int) < 0 := by omega
  have hbn1 : b < w1.heap.size := Nat.lt_of_lt_of_le hbn BB.size
  by_cases ht0 : text.size = 0
  · have ht0' : ((text.size : Int) == 0) = true := by rw [ht0]; rfl
    clear HI HJ HONE hcells ht0
    go_wp2
    go_ret
    exact ⟨rfl, BB⟩
  have ht0' : ((text.size : Int) == 0) = false := by simpa using ht0
  by_cases ht1 : text.size = x.mod.text.size
  · have ht1' : ((text.size : Int) != (x.mod.text.size : Int)) = false := by rw [ht1]; simp
    have HJ2 := HJ.out k x hx ht1
    have HJJ : Hid (∀ (j : Nat) y, l[j]? = some y → k ≠ j → ∀ vm W, Below w.heap.size w W → RowOf 8 PV.cell W.heap.size W vm (l.set k (retext x text)) → Calls Tryz.prog 9 #[.agg #[.int .i64 ma, .int .i64 mi, .slice qe lk je], vm, .string y.mod.name] W fun e w' => e = .returned (.tuple #[.string (IM y.mod.name).1, .int .i64 (IM y.mod.name).2]) ∧ Below W.heap.size W w') := HJ2
    have HC : Hid (∀ (j : Nat) y, l[j]? = some y → ∀ i, i < 8 → w.cell? ⟨b, off + j * 8 + i, none⟩ = some (PV.cell y i)) := hcells
    have HF : Hid ((l.flatMap pvC).set (k * 8 + 3) (.string text) = (l.set k (retext x text)).flatMap pvC) := flat_set (C := pvC) (sz := 8) (fun _ => rfl) l k x (retext x text) 3 (.string text) hx (by omega) (retext_cells x text)
    have HL : Hid ((l.flatMap pvC).length = l.length * 8) := flat_len (C := pvC) (sz := 8) (fun _ => rfl) l
    have HN : Hid (∀ j u, (l.flatMap pvC)[j]? = some u → w1.cell? ((⟨b, off, none⟩ : Addr).add j) = some u) := news_row (C := pvC) (cells := PV.cell) (sz := 8) (by decide) (fun _ => rfl) pvC_at (fun j y hy i hi => (BB.cell (p := ⟨b, off + j * 8 + i, none⟩) hbn).trans (hcells j y hy i hi))
    have HAT3 : Hid ((l.flatMap pvC)[k * 8 + 3]? = some (.string x.mod.text)) := flat_at (C := pvC) (sz := 8) (fun _ => rfl) l k x 3 hx (by omega)
    have HLS : Hid ((l.set k (retext x text)).length = l.length) := List.length_set
    clear HJ HJ2 hcells ht0 ht1

    generalize l.flatMap pvC = news at *
    generalize l.set k (retext x text) = ls at *
    clear hx
    have HBB : Hid _ := BB
    have HKB : Hid _ := KB
    clear BB KB
    go_wp2_with (at_builtin; refine wpList_append_own _ rfl _ _ 25 rfl w1.heap.size 41 i0 _ 8 128 Tryz.underlying25 hi0 hz0 hz1 hz2 rfl (by decide) _ _ _ rfl (World.ownsRow_made w1 #[] 0 (Nat.le_refl _) (Nat.zero_le _) (by simp)) ⟨b, off, none⟩ l.length cap news rfl ?qc1 ?qc2 ?qc3 ?qc4 ?qc5 ?qc6 ?_)
    case qc1 => exact HL.out
    case qc2 =>
      intro j u hj
      exact Lib.cell?_alloc_some _ (HN.out j u hj)
    case qc3 => exact HONE.out
    case qc4 => unfold maxLen; omega
    case qc5 => omega
    case qc6 => simp
    intro v' u own grow hnil
    have BB := HBB.out
    have KB := HKB.out
    clear HBB HKB hnil HN HL cx hbn1 ht0' ht1'
    have zw : w.heap.size < w1.heap.size := CellsAt.lt KB
    have BU : Below w.heap.size w u := (BB.alloc BB.size _).grown grow (by simp; omega) (fun j hj => by simp [Value.ownBlock] at hj; omega)
    have KU : CellsAt u w.heap.size 24 #[.int .i64 ma, .int .i64 mi, .slice qe lk je] := CellsAt.kept (CellsAt.kept KB (World.grownBy_alloc w1 _ none) (by simp)) grow (fun e => by simp [Value.ownBlock] at e; omega)
    obtain ⟨g, c2, cur, rfl, hg, hcur, -⟩ : ∃ g c2 cur, v' = .slice (some ⟨g, 0, none⟩) l.length c2 ∧ w1.heap.size ≤ g ∧ u.heap[g]? = some cur ∧ True := by
      rcases own.2 with ⟨_, hn⟩ | ⟨g, c2, cur, e, hg, hcur, _⟩
      · omega
      · exact ⟨g, c2, _, e, hg, hcur, trivial⟩
    have s3 := own.cellAt (k * 8 + 3) (by omega)
    rw [HAT3.out] at s3
    have f3 := own.frozenAt (k * 8 + 3)
    have hgu : g < u.heap.size := (Array.getElem?_eq_some_iff.1 hcur).1
    have HOWN : Hid (u.ownsRow w1.heap.size 41 8 (.slice (some ⟨g, 0, none⟩) l.length c2) l.length news) := own
    have HBU : Hid _ := BU
    have HKU : Hid _ := KU
    clear own grow BU KU BB KB hcur HAT3 HONE
    go_wp2_with fail
    have BU := HBU.out
    have KU := HKU.out
    obtain ⟨own2, gr2⟩ := HOWN.out.stored (k * 8 + 3) (.string text)
    rw [HF.out] at own2
    have BL := BU.grown gr2 BU.size (fun j e => by obtain rfl := Option.some.inj e; omega)
    have KL := CellsAt.kept KU gr2 (fun e => by have := Option.some.inj e; omega)
    have ROW : RowOf 8 PV.cell (u.setCell ⟨g, k * 8 + 3, none⟩ (.string text)).heap.size (u.setCell ⟨g, k * 8 + 3, none⟩ (.string text)) (.slice (some ⟨g, 0, none⟩) l.length c2) ls := by
      have := own_rows (C := pvC) (cells := PV.cell) (sz := 8) (fun _ => rfl) pvC_at (l := ls) (by rw [HLS.out]; exact own2) (by rw [HLS.out]; omega)
      exact this
    clear HBU HKU HOWN own2 gr2 BU KU HF HLS s3 f3 hgu
    generalize u.setCell ⟨g, k * 8 + 3, none⟩ (.string text) = wL at BL KL ROW ⊢
    have HROW : Hid _ := ROW
    have HBL : Hid _ := BL
    have HKL : Hid _ := KL
    clear ROW BL KL
    go_loopw [10] (fun i wr => ∃ (j : Nat), j ≤ l.length ∧ i = .int .i64 j ∧ Below wL.heap.size wL wr) (fun i _ => l.length - (intOf i).toNat)
    case atStart => exact ⟨0, Nat.zero_le _, rfl, Below.refl _ _⟩
    case round =>
      obtain ⟨j, hj, rfl, B⟩ := hrel
      have BW := HBL.out.trans (B.mono HBL.out.size)
      by_cases hlj : j < l.length
      · obtain ⟨y, hy⟩ : ∃ y, l[j]? = some y := ⟨_, List.getElem?_eq_getElem hlj⟩
        by_cases hjk : j = k
        · have hjk' : ((j : Int) == (k : Int)) = true := by rw [hjk]; simp
          clear HI HJJ HC
          go_wp2
          exact ⟨⟨j + 1, by omega, by go_num, B⟩, by simp [intOf]; omega⟩
        · have hjk' : ((j : Int) == (k : Int)) = false := by simp; omega
          have HJ1 : Hid (∀ vm W, Below w.heap.size w W → RowOf 8 PV.cell W.heap.size W vm ls → Calls Tryz.prog 9 #[.agg #[.int .i64 ma, .int .i64 mi, .slice qe lk je], vm, .string y.mod.name] W fun e w' => e = .returned (.tuple #[.string (IM y.mod.name).1, .int .i64 (IM y.mod.name).2]) ∧ Below W.heap.size W w') := HJJ.out j y hy (fun e => hjk e.symm)
          have HI1 : Hid (∀ W, Below w.heap.size w W → Calls Tryz.prog 9 #[.agg #[.int .i64 ma, .int .i64 mi, .slice qe lk je], .slice (some ⟨b, off, none⟩) l.length cap, .string y.mod.name] W fun e w' => e = .returned (.tuple #[.string (IM y.mod.name).1, .int .i64 (IM y.mod.name).2]) ∧ Below W.heap.size W w') := HI.out y.mod.name
          have c0w := HC.out j y hy 0 (by omega)
          dsimp only [PV.cell] at c0w
          rw [Nat.add_zero] at c0w
          have c0 := (BW.cell (p := ⟨b, off + j * 8, none⟩) hbn).trans c0w
          have KR := CellsAt.below HKL.out B (CellsAt.lt HKL.out)
          have d0 := CellsAt.cell KR 0
          have d1 := CellsAt.cell KR 1
          have d2 := CellsAt.cell KR 2
          have hk3 := CellsAt.lt KR
          simp at d0 d1 d2
          generalize IM y.mod.name = R at *
          generalize y.mod.name = yn at *
          obtain ⟨R1, R2⟩ := R
          dsimp only at HI1 HJ1
          have hjl : (j : Int) < (l.length : Int) := by omega
          have hj0 : ¬ (j : Int) < 0 := by omega
          have hbr : b < wr.heap.size := Nat.lt_of_lt_of_le hbn BW.size
          have r0 := cell_regrown c0
          have s0 := cell_regrown d0
          have s1 := cell_regrown d1
          have s2 := cell_regrown d2
          have HX' : Hid (∀ d os, _) := fun d os => HI1.out _ (BW.trans ((below_regrown wr d os).mono BW.size))
          try dsimp only at HX'
          clear HI HJJ HC hy hjk
          go_wp2_with fail
          refine wp_region_quiet_below (by kernel_rfl) (by kernel_rfl) ?_
          repeat (quiet_step ((go_at_call 9; go_must (exact Calls.regrown_of (HX'.out _ _)))))
          refine wpQuiet_nil ?_
          intro w7 hw7
          obtain ⟨⟨dq, osq⟩, hw7⟩ := hw7
          have b7 := below_regrown wr dq osq
          rw [← hw7] at b7
          clear hw7 HX' r0 s0 s1 s2 c0 d0 d1 d2 hk3 hbr
          have B7 := B.trans (b7.mono B.size)
          have BW7 := HBL.out.trans (B7.mono HBL.out.size)
          have c0 := (BW7.cell (p := ⟨b, off + j * 8, none⟩) hbn).trans c0w
          have KR7 := CellsAt.below HKL.out B7 (CellsAt.lt HKL.out)
          have d0 := CellsAt.cell KR7 0
          have d1 := CellsAt.cell KR7 1
          have d2 := CellsAt.cell KR7 2
          have hk3 := CellsAt.lt KR7
          simp at d0 d1 d2
          have hbr : b < w7.heap.size := Nat.lt_of_lt_of_le hbn BW7.size
          have r0 := cell_regrown c0
          have s0 := cell_regrown d0
          have s1 := cell_regrown d1
          have s2 := cell_regrown d2
          have HRW := (RowOf.below (n₀ := wL.heap.size) (W := wL) (sz := 8) (cells := PV.cell) (v := .slice (some ⟨g, 0, none⟩) l.length c2) (l := ls) HROW.out B7).more B7.size
          have HX' : Hid (∀ d os, _) := fun d os => HJ1.out _ _ (BW7.trans ((below_regrown w7 d os).mono BW7.size)) ((RowOf.below HRW (below_regrown w7 d os)).more (below_regrown w7 d os).size)
          try dsimp only at HX'
          clear HRW KR KR7 b7
          go_wp2_with fail
          refine wp_region_quiet_below (by kernel_rfl) (by kernel_rfl) ?_
          repeat (quiet_step ((go_at_call 9; go_must (exact Calls.regrown_of (HX'.out _ _)))))
          refine wpQuiet_nil ?_
          intro w8 hw8
          obtain ⟨⟨dq, osq⟩, hw8⟩ := hw8
          have b8 := below_regrown w7 dq osq
          rw [← hw8] at b8
          clear hw8 HX' r0 s0 s1 s2 c0 d0 d1 d2 hk3 hbr
          have B8 := B7.trans (b8.mono B7.size)
          clear BW7 b8 BW
          go_wp2
          exact ⟨⟨j + 1, by omega, by go_num, B8⟩, by simp [intOf]; omega⟩
      · obtain rfl : j = l.length := by omega
        clear HI HJJ HC
        go_wp2
        go_ret
        exact ⟨rfl, BW⟩
  · have ht1' : ((text.size : Int) != (x.mod.text.size : Int)) = true := by simp; omega
    clear HI HJ HONE hcells ht0 ht1
    go_wp2
    go_ret
    exact ⟨rfl, BB⟩

end Go.Proofs.YtppmihnbpmkbnadGreat.linkAlone

/- Arguments that came in: texts, numbers, rows, a patch. -/
namespace Go.Proofs.YtppmihnbpmkbnadGreat
open Go.ChangeShapes Go.WideShapes Go.ChangeAt Go.RowKit Go.PlainAid Go.Deep

set_option maxRecDepth 100000

theorem list7 {α : Type} {l : List α} (h : l.length = 7) : ∃ a b c d e f g, l = [a, b, c, d, e, f, g] := by
  match l, h with
  | [a, b, c, d, e, f, g], _ => exact ⟨a, b, c, d, e, f, g, rfl⟩
theorem list4 {α : Type} {l : List α} (h : l.length = 4) : ∃ a b c d, l = [a, b, c, d] := by
  match l, h with
  | [a, b, c, d], _ => exact ⟨a, b, c, d, rfl⟩
theorem list2 {α : Type} {l : List α} (h : l.length = 2) : ∃ a b, l = [a, b] := by
  match l, h with
  | [a, b], _ => exact ⟨a, b, rfl⟩

section
variable {H : Type} {enc : TypeId × Value → H} {W : World} {spare : Nat → Bool} {held : Bool}

theorem row_of_trod {α : Type} [Inhabited α] {t e : TypeId} {sz fuel : Nat} {c : Value} {y : DataW H × List MemPlace} {cells : α → Nat → Value} {good : α → Prop} (ht : Tryz.prog.underlying t = some (.slice e)) (hsz : Tryz.prog.cellsOf e = sz) (h0 : 0 < sz)
    (conv : ∀ n cs z, cs.length = sz → DataW.trod enc Tryz.prog W 0 spare held n e cs = some z → ∃ x : α, (∀ i, i < sz → cs[i]? = some (cells x i)) ∧ good x)
    (h : DataW.trod enc Tryz.prog W 0 spare held fuel t [c] = some y) : ∃ l : List α, RowOf sz cells W.heap.size W c l ∧ ∀ x ∈ l, good x := by
  rcases open_slice ht h with ⟨hc, _⟩ | ⟨a, len, cap, m, n, D, Pl, hc, _, hl, hm, hmm, _, hx⟩
  · injection hc with hc
    subst hc
    exact ⟨[], ⟨none, 0, rfl, Nat.zero_le _, .inl rfl⟩, by simp⟩
  · injection hc with hc
    subst hc
    rw [hsz] at hx
    have hle : len ≤ m := by rw [hmm]; split <;> omega
    obtain ⟨X, hX⟩ := choose_lt (α := α) (n := len) (p := fun i x => (∀ j, j < sz → W.cell? (a.add (i * sz + j)) = some (cells x j)) ∧ good x) (fun i hi => by
      obtain ⟨cs', h1, h2⟩ := hx i (by omega)
      obtain ⟨_, hlen, hcell⟩ := World.cells?_some h1
      obtain ⟨x, hx1, hx2⟩ := conv n cs' _ hlen h2
      refine ⟨x, fun j hj => ?_, hx2⟩
      have h3 := hcell j hj
      rw [hx1 j hj] at h3
      have hadd : (a.add (i * sz)).add j = a.add (i * sz + j) ∨ W.cell? ((a.add (i * sz)).add j) = W.cell? (a.add (i * sz + j)) := by
        unfold Addr.add
        by_cases e1 : i * sz = 0
        · rw [if_pos e1, e1, Nat.zero_add]; exact .inl rfl
        · rw [if_neg e1]
          by_cases e2 : j = 0
          · rw [if_pos e2, e2, Nat.add_zero, if_neg e1]; exact .inl rfl
          · rw [if_neg e2, if_neg (by omega), Nat.add_assoc]; exact .inl rfl
      rcases hadd with hadd | hadd
      · rw [← hadd]; exact h3
      · rw [← hadd]; exact h3)
    refine ⟨(List.range len).map X, ⟨some a, cap, by simp, by simp; unfold maxLen at hm; omega, ?_⟩, ?_⟩
    · by_cases hz : len = 0
      · left
        subst hz
        rfl
      · right
        have hc0 := (hX 0 (by omega)).1 0 h0
        rw [Nat.zero_mul, Nat.zero_add] at hc0
        obtain ⟨b, off, spot⟩ := a
        have hsp : spot = none := by simpa [Addr.add] using World.cell?_spot hc0
        subst hsp
        refine ⟨b, off, rfl, ?_, fun j x hj i hi => ?_⟩
        · have := World.block_lt_of_cell? W _ hc0
          simpa [Addr.add] using this
        · have hjl : j < len := by
            have := (List.getElem?_eq_some_iff.1 hj).1
            simpa using this
          obtain rfl : X j = x := by
            rw [List.getElem?_map, List.getElem?_range hjl] at hj
            simpa using hj
          have h4 := (hX j hjl).1 i hi
          unfold Addr.add at h4
          by_cases e0 : j * sz + i = 0
          · rw [if_pos e0] at h4
            rw [Nat.add_assoc, e0]
            exact h4
          · rw [if_neg e0] at h4
            rw [Nat.add_assoc]
            exact h4
    · intro x hx
      obtain ⟨i, hi, rfl⟩ := List.mem_map.1 hx
      exact (hX i (by simpa using hi)).2

theorem str_of_trod {n : Nat} {c : Value} {y : DataW H × List MemPlace} (h : DataW.trod enc Tryz.prog W 0 spare held n 9 [c] = some y) : ∃ s : ByteArray, c = .string s ∧ s.size ≤ 9223372036854775807 := by
  obtain ⟨s, hc, _, hs⟩ := DataW.trod_string Tryz.underlying9 h
  injection hc with hc
  exact ⟨s, hc, hs⟩
theorem int_of_trod {n : Nat} {c : Value} {y : DataW H × List MemPlace} (h : DataW.trod enc Tryz.prog W 0 spare held n 3 [c] = some y) : ∃ k : Int, c = .int .i64 k := by
  obtain ⟨k, hc, _, _⟩ := DataW.trod_int Tryz.underlying3 h
  injection hc with hc
  exact ⟨k, hc⟩

theorem exp_of_trod (n : Nat) (cs : List Value) (z : DataW H × List MemPlace) (hl : cs.length = 2) (h : DataW.trod enc Tryz.prog W 0 spare held n 120 cs = some z) : ∃ x : Exp, (∀ i, i < 2 → cs[i]? = some (Exp.cell x i)) ∧ x.name.size ≤ 9223372036854775807 := by
  obtain ⟨xs, m, _, _, _, hlen, hf⟩ := DataW.trod_struct Tryz.underlying120 h
  obtain ⟨x0, x1, rfl⟩ := list2 hlen
  obtain ⟨c0, c1, rfl⟩ := list2 hl
  obtain ⟨s, rfl, hs⟩ := str_of_trod (hf 0 _ rfl)
  obtain ⟨k, rfl⟩ := int_of_trod (hf 1 _ rfl)
  refine ⟨⟨s, k⟩, fun i hi => ?_, hs⟩
  have : i = 0 ∨ i = 1 := by omega
  rcases this with rfl | rfl <;> rfl
theorem imp_of_trod (n : Nat) (cs : List Value) (z : DataW H × List MemPlace) (hl : cs.length = 4) (h : DataW.trod enc Tryz.prog W 0 spare held n 84 cs = some z) : ∃ x : Imp, (∀ i, i < 4 → cs[i]? = some (Imp.cell x i)) ∧ x.fits := by
  obtain ⟨xs, m, _, _, _, hlen, hf⟩ := DataW.trod_struct Tryz.underlying84 h
  obtain ⟨x0, x1, x2, x3, rfl⟩ := list4 hlen
  obtain ⟨c0, c1, c2, c3, rfl⟩ := list4 hl
  obtain ⟨s, rfl, hs⟩ := str_of_trod (hf 0 _ rfl)
  obtain ⟨t, rfl, ht⟩ := str_of_trod (hf 1 _ rfl)
  obtain ⟨k, rfl⟩ := int_of_trod (hf 2 _ rfl)
  obtain ⟨j, rfl⟩ := int_of_trod (hf 3 _ rfl)
  refine ⟨⟨s, t, k, j⟩, fun i hi => ?_, ⟨hs, ht⟩⟩
  have : i = 0 ∨ i = 1 ∨ i = 2 ∨ i = 3 := by omega
  rcases this with rfl | rfl | rfl | rfl <;> rfl
theorem pat_of_trod (n : Nat) (cs : List Value) (z : DataW H × List MemPlace) (hl : cs.length = 4) (h : DataW.trod enc Tryz.prog W 0 spare held n 43 cs = some z) : ∃ x : Pat, (∀ i, i < 4 → cs[i]? = some (Pat.cell x i)) ∧ True := by
  obtain ⟨xs, m, _, _, _, hlen, hf⟩ := DataW.trod_struct Tryz.underlying43 h
  obtain ⟨x0, x1, x2, x3, rfl⟩ := list4 hlen
  obtain ⟨c0, c1, c2, c3, rfl⟩ := list4 hl
  obtain ⟨a, rfl⟩ := int_of_trod (hf 0 _ rfl)
  obtain ⟨b, rfl⟩ := int_of_trod (hf 1 _ rfl)
  obtain ⟨k, rfl⟩ := int_of_trod (hf 2 _ rfl)
  obtain ⟨j, rfl⟩ := int_of_trod (hf 3 _ rfl)
  refine ⟨⟨a, b, k, j⟩, fun i hi => ?_, trivial⟩
  have : i = 0 ∨ i = 1 ∨ i = 2 ∨ i = 3 := by omega
  rcases this with rfl | rfl | rfl | rfl <;> rfl

theorem open_patch {v : Value} {d : DataW H} {ps : List MemPlace} {base : Nat} (hv : Value.okWide Tryz.prog W .any base 43 v) (h : DataW.Trod enc Tryz.prog W 0 spare held 43 v d ps) : ∃ p : Pat, v = .agg #[.int .i64 p.kind, .int .i64 p.pos, .int .i64 p.sym, .int .i64 p.add] := by
  obtain ⟨cs, rfl, hcs⟩ := okWide_struct Tryz.underlying43 hv
  obtain ⟨fuel, hf⟩ := h
  obtain ⟨xs, m, _, _, hl, hlen, hf⟩ := DataW.trod_struct Tryz.underlying43 hf
  have hc4 : Tryz.prog.cellsOf 43 = 4 := by kernel_rfl
  obtain ⟨x0, x1, x2, x3, rfl⟩ := list4 hlen
  rw [hc4] at hl
  obtain ⟨c0, c1, c2, c3, hcl⟩ := list4 hl
  have hcs' : cs.toList = [c0, c1, c2, c3] := hcl
  have hcA : cs = #[c0, c1, c2, c3] := by rw [← Array.toArray_toList (xs := cs), hcs']
  subst hcA
  have f0 := hf 0 _ rfl
  have f1 := hf 1 _ rfl
  have f2 := hf 2 _ rfl
  have f3 := hf 3 _ rfl
  obtain ⟨a, rfl⟩ := int_of_trod f0
  obtain ⟨b, rfl⟩ := int_of_trod f1
  obtain ⟨c, rfl⟩ := int_of_trod f2
  obtain ⟨e, rfl⟩ := int_of_trod f3
  exact ⟨⟨a, b, c, e⟩, rfl⟩
end

end Go.Proofs.YtppmihnbpmkbnadGreat

/- A module that came in. -/
namespace Go.Proofs.YtppmihnbpmkbnadGreat
open Go.ChangeShapes Go.WideShapes Go.ChangeAt Go.RowKit Go.PlainAid Go.Deep

set_option maxRecDepth 100000

section
variable {H : Type} {enc : TypeId × Value → H} {W : World} {spare : Nat → Bool} {held : Bool}

theorem open_module {v : Value} {d : DataW H} {ps : List MemPlace} {base : Nat} (hv : Value.okWide Tryz.prog W .any base 39 v) (h : DataW.Trod enc Tryz.prog W 0 spare held 39 v d ps) : ∃ M, IsMod W.heap.size W v M ∧ M.fits := by
  obtain ⟨cs, rfl, hcs⟩ := okWide_struct Tryz.underlying39 hv
  obtain ⟨fuel, hf⟩ := h
  obtain ⟨xs, m, _, _, hl, hlen, hf⟩ := DataW.trod_struct Tryz.underlying39 hf
  have hc7 : Tryz.prog.cellsOf 39 = 7 := by kernel_rfl
  obtain ⟨x0, x1, x2, x3, x4, x5, x6, rfl⟩ := list7 hlen
  rw [hc7] at hl
  obtain ⟨c0, c1, c2, c3, c4, c5, c6, hcl⟩ := list7 hl
  have hcs' : cs.toList = [c0, c1, c2, c3, c4, c5, c6] := hcl
  have hcA : cs = #[c0, c1, c2, c3, c4, c5, c6] := by rw [← Array.toArray_toList (xs := cs), hcs']
  subst hcA
  have f0 := hf 0 _ rfl
  have f1 := hf 1 _ rfl
  have f2 := hf 2 _ rfl
  have f3 := hf 3 _ rfl
  have f4 := hf 4 _ rfl
  have f5 := hf 5 _ rfl
  have f6 := hf 6 _ rfl
  obtain ⟨N, rfl, hN⟩ := str_of_trod f0
  obtain ⟨a, rfl⟩ := int_of_trod f1
  obtain ⟨b, rfl⟩ := int_of_trod f2
  obtain ⟨T, rfl, hT⟩ := str_of_trod f3
  have _ : Inhabited Exp := ⟨⟨⟨#[]⟩, 0⟩⟩
  have _ : Inhabited Imp := ⟨⟨⟨#[]⟩, ⟨#[]⟩, 0, 0⟩⟩
  have _ : Inhabited Pat := ⟨⟨0, 0, 0, 0⟩⟩
  obtain ⟨es, hE, gE⟩ := row_of_trod (cells := Exp.cell) Tryz.underlying22 (sz := 2) (by kernel_rfl) (by decide) exp_of_trod f4
  obtain ⟨is, hI, gI⟩ := row_of_trod (cells := Imp.cell) Tryz.underlying36 (sz := 4) (by kernel_rfl) (by decide) imp_of_trod f5
  obtain ⟨ps, hP, _⟩ := row_of_trod (cells := Pat.cell) Tryz.underlying37 (sz := 4) (by kernel_rfl) (by decide) pat_of_trod f6
  exact ⟨⟨N, a, b, T, es, is, ps⟩, ⟨c4, c5, c6, rfl, hE, hI, hP⟩, hN, hT, gE, gI⟩
end

end Go.Proofs.YtppmihnbpmkbnadGreat
