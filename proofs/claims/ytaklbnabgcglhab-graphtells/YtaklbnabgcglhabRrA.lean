/- The contracts of the document's CheckKernel, CheckModules, exportAt, PlaceOf. -/
import Derived.Test.YtaklbnabgcglhabResG
namespace Go.Proofs.Ytaklbnabgcglhab
open Go.RowKit Go.PlainAid

set_option maxRecDepth 100000

set_option maxHeartbeats 1000000 in
theorem checkKernel_any (K : Ker) (v : Value) (w : World) (hK : IsKer w.heap.size w v K) (hf : K.fits) :
    Calls Try.prog 25 #[v] w fun e w' => e = .returned (.int .i64 (chkKer K)) ∧ Below w.heap.size w w' := by
  obtain ⟨ve, rfl, hE⟩ := hK
  have HE : Hid (∀ w', Below w.heap.size w w' → K.exps.length ≤ 8 → Calls Try.prog 50 #[ve, .int .i64 4096] w' fun e w'' => e = .returned (.int .i64 (chkExps 4096 [] K.exps)) ∧ Below w'.heap.size w' w'') :=
    fun w' hb hl => checkExports_any K.exps ve _ w' ((hE.below hb).more hb.size) hf hl (by decide) (by decide)
  obtain ⟨pe, ke, rfl, _, hE⟩ := hE
  clear hE hf
  have key : (betw K.major 0 255 = false ∧ chkKer K = 3) ∨ (betw K.major 0 255 = true ∧ betw K.minor 0 255 = false ∧ chkKer K = 3) ∨ (betw K.major 0 255 = true ∧ betw K.minor 0 255 = true ∧ 8 < K.exps.length ∧ chkKer K = 2) ∨ (betw K.major 0 255 = true ∧ betw K.minor 0 255 = true ∧ K.exps.length ≤ 8 ∧ chkKer K = chkExps 4096 [] K.exps) := by
    unfold chkKer isVer
    cases h1 : betw K.major 0 255
    · exact .inl ⟨rfl, rfl⟩
    cases h2 : betw K.minor 0 255
    · exact .inr (.inl ⟨rfl, rfl, rfl⟩)
    · by_cases h3 : 8 < K.exps.length
      · exact .inr (.inr (.inl ⟨rfl, rfl, h3, by rw [if_neg (by decide), if_pos h3]⟩))
      · exact .inr (.inr (.inr ⟨rfl, rfl, by omega, by rw [if_neg (by decide), if_neg h3]⟩))
  generalize chkKer K = R at *
  generalize chkExps 4096 [] K.exps = ce at *
  obtain ⟨ma, mi, es⟩ := K
  dsimp only at *
  generalize es.length = le at *
  have HW1 : Hid (Below w.heap.size w (w.alloc (.cells #[.int .i64 ma, .int .i64 mi, .slice pe le ke] 37))) := (Below.refl _ _).alloc (Nat.le_refl _) _
  rcases key with ⟨h1, rfl⟩ | ⟨h1, h2, rfl⟩ | ⟨h1, h2, h3, rfl⟩ | ⟨h1, h2, h3, rfl⟩
  · go_enter Try.func25, Try.ntmps25
    go_wp2_with (go_at_call 49; refine (between_any _ _ _ _).mono ?_; rintro e w' ⟨rfl, rfl⟩)
    go_ret
    exact ⟨rfl, HW1.out⟩
  · go_enter Try.func25, Try.ntmps25
    go_wp2_with (go_at_call 49; refine (between_any _ _ _ _).mono ?_; rintro e w' ⟨rfl, rfl⟩)
    go_ret
    exact ⟨rfl, HW1.out⟩
  · have h3' : (8 : Int) < le := by omega
    go_enter Try.func25, Try.ntmps25
    go_wp2_with (go_at_call 49; refine (between_any _ _ _ _).mono ?_; rintro e w' ⟨rfl, rfl⟩)
    go_ret
    exact ⟨rfl, HW1.out⟩
  · have h3' : decide ((8 : Int) < le) = false := decide_eq_false (by omega)
    have h3'' : decide (8 < le) = false := decide_eq_false (by omega)
    go_enter Try.func25, Try.ntmps25
    go_wp2_with (go_at_call 49; refine (between_any _ _ _ _).mono ?_; rintro e w' ⟨rfl, rfl⟩)
    refine (HE.out _ HW1.out h3).mono ?_
    rintro e w1 ⟨rfl, b1⟩
    go_wp2
    go_ret
    exact ⟨rfl, HW1.out.trans (b1.mono HW1.out.size)⟩

theorem chkPls_step2 (x : PV) (l : List PV) : (chkMod x.mod ≠ 0 ∧ chkPls ((x :: l).map PV.plc) = chkMod x.mod) ∨ (chkMod x.mod = 0 ∧ betw x.first 0 15 = false ∧ chkPls ((x :: l).map PV.plc) = 3) ∨ (chkMod x.mod = 0 ∧ betw x.first 0 15 = true ∧ chkPls ((x :: l).map PV.plc) = chkPls (l.map PV.plc)) := by
  have hs : chkPls ((x :: l).map PV.plc) = if chkMod x.mod ≠ 0 then chkMod x.mod else if betw x.first 0 15 = false then 3 else chkPls (l.map PV.plc) := rfl
  rw [hs]
  by_cases h0 : chkMod x.mod = 0
  · cases h1 : betw x.first 0 15
    · exact .inr (.inl ⟨h0, rfl, by rw [if_neg (by omega), if_pos rfl]⟩)
    · exact .inr (.inr ⟨h0, rfl, by rw [if_neg (by omega), if_neg (by decide)]⟩)
  · exact .inl ⟨h0, by rw [if_pos h0]⟩

set_option maxHeartbeats 2000000 in
theorem checkModules_any (l : List PV) (v : Value) (w : World) (hrow : IsPlcs w.heap.size w v l) (hfit : ∀ x ∈ l, x.mod.fits) :
    Calls Try.prog 47 #[v, .bool true, .bool false] w fun e w' => e = .returned (.int .i64 (chkPlaced (l.map PV.plc))) ∧ Below w.heap.size w w' := by
  have HC0 : Hid (∀ x ∈ l, ∀ W, Below w.heap.size w W → Calls Try.prog 20 #[x.modV] W fun e w' => e = .returned (.int .i64 (chkMod x.mod)) ∧ Below W.heap.size W w') := fun x hx W hb => checkModule_any x.mod x.modV W (((hrow.2 x hx).below hb).more hb.size |>.isMod) (hfit x hx)
  have hat := hrow.2
  obtain ⟨⟨a, cap, rfl, _, hrow⟩, _⟩ := hrow
  by_cases h8 : 8 < l.length
  · have e1 : chkPlaced (l.map PV.plc) = 2 := by
      unfold chkPlaced
      rw [if_pos (by simpa using h8)]
    rw [e1]
    have h8' : (8 : Int) < l.length := by omega
    clear e1 HC0 hat hrow
    go_enter Try.func47, Try.ntmps47
    go_wp2
    go_ret
    exact ⟨rfl, Below.refl _ _⟩
  · have e1 : chkPlaced (l.map PV.plc) = chkPls (l.map PV.plc) := by
      unfold chkPlaced
      rw [if_neg (by simpa using h8)]
    rw [e1]
    have h8' : decide ((8 : Int) < l.length) = false := decide_eq_false (by omega)
    have h8'' : decide (8 < l.length) = false := decide_eq_false (by omega)
    clear e1
    go_enter Try.func47, Try.ntmps47
    go_wp2_with fail
    go_loopw [7] (fun i wr => ∃ (k : Nat), k ≤ l.length ∧ i = .int .i64 k ∧ Hid (chkPls (l.map PV.plc) = chkPls ((l.drop k).map PV.plc)) ∧ Below w.heap.size w wr) (fun i _ => l.length - (intOf i).toNat)
    case atStart => exact ⟨0, Nat.zero_le _, rfl, by show chkPls (l.map PV.plc) = chkPls ((l.drop 0).map PV.plc); rfl, Below.refl _ _⟩
    case round =>
      obtain ⟨k, hk, rfl, HC, B⟩ := hrel
      by_cases hlt : k < l.length
      · obtain ⟨x, hx⟩ : ∃ x, l[k]? = some x := ⟨_, List.getElem?_eq_getElem hlt⟩
        rcases hrow with h | ⟨b, off, rfl, hbn, hcells⟩
        · subst h; simp at hlt
        have key := chkPls_step2 x (l.drop (k + 1))
        have HR : Hid (chkPls (l.map PV.plc) = chkPls ((x :: l.drop (k + 1)).map PV.plc)) := by
          show chkPls (l.map PV.plc) = _
          rw [HC.out, drop_at hx]
        have HM : Hid (∀ W, Below w.heap.size w W → Calls Try.prog 20 #[x.modV] W fun e w' => e = .returned (.int .i64 (chkMod x.mod)) ∧ Below W.heap.size W w') := HC0.out x (List.mem_of_getElem? hx)
        obtain ⟨⟨pe, ke, e4, _⟩, ⟨pi, ki, e5, _⟩, ⟨pp, kp, e6, _⟩⟩ := hat x (List.mem_of_getElem? hx)
        obtain ⟨⟨N, ma, mi, T, es, is, ps⟩, ve, vi, vp, fi⟩ := x
        dsimp only at e4 e5 e6
        subst e4 e5 e6
        have c0 := (B.cell (p := ⟨b, off + k * 8 + 0, none⟩) hbn).trans (hcells k _ hx 0 (by omega))
        have c1 := (B.cell (p := ⟨b, off + k * 8 + 1, none⟩) hbn).trans (hcells k _ hx 1 (by omega))
        have c2 := (B.cell (p := ⟨b, off + k * 8 + 2, none⟩) hbn).trans (hcells k _ hx 2 (by omega))
        have c3 := (B.cell (p := ⟨b, off + k * 8 + 3, none⟩) hbn).trans (hcells k _ hx 3 (by omega))
        have c4 := (B.cell (p := ⟨b, off + k * 8 + 4, none⟩) hbn).trans (hcells k _ hx 4 (by omega))
        have c5 := (B.cell (p := ⟨b, off + k * 8 + 5, none⟩) hbn).trans (hcells k _ hx 5 (by omega))
        have c6 := (B.cell (p := ⟨b, off + k * 8 + 6, none⟩) hbn).trans (hcells k _ hx 6 (by omega))
        have q7 := hcells k _ hx 7 (by omega)
        dsimp only [PV.cell, PV.modV] at c0 c1 c2 c3 c4 c5 c6 q7 HM
        rw [Nat.add_zero] at c0
        clear HC HC0 hcells hx hat
        dsimp only at key
        generalize chkMod ⟨N, ma, mi, T, es, is, ps⟩ = cm at key HM
        generalize chkPls (List.map PV.plc (⟨⟨N, ma, mi, T, es, is, ps⟩, .slice pe es.length ke, .slice pi is.length ki, .slice pp ps.length kp, fi⟩ :: l.drop (k + 1))) = R at key HR
        generalize es.length = le at *
        generalize is.length = li at *
        generalize ps.length = lp at *
        go_wp2_with fail
        refine (HM.out _ B).mono ?_
        rintro e w2 ⟨rfl, b2⟩
        have B2 := B.trans (b2.mono B.size)
        have X7 := (B2.cell (p := ⟨b, off + k * 8 + 7, none⟩) hbn).trans q7
        clear b2 c0 c1 c2 c3 c4 c5 c6 q7 HM
        rcases key with ⟨h1, rfl⟩ | ⟨rfl, h2, rfl⟩ | ⟨rfl, h2, rfl⟩
        · have h1' : (R != 0) = true := by simpa using h1
          go_wp2
          go_ret
          exact ⟨by rw [HR.out]; rfl, B2⟩
        · go_wp2_with (go_at_call 49; refine (between_any _ _ _ _).mono ?_; rintro e w' ⟨rfl, rfl⟩)
          go_ret
          exact ⟨by rw [HR.out]; rfl, B2⟩
        · go_wp2_with (go_at_call 49; refine (between_any _ _ _ _).mono ?_; rintro e w' ⟨rfl, rfl⟩)
          exact ⟨⟨k + 1, by omega, by go_num, HR.out, B2⟩, by simp [intOf]; omega⟩
      · obtain rfl : k = l.length := by omega
        have HZ : Hid (chkPls (l.map PV.plc) = 0) := by
          show chkPls (l.map PV.plc) = 0
          rw [HC.out, List.drop_length]; rfl
        go_wp2
        go_ret
        exact ⟨by rw [HZ.out]; rfl, B⟩

def posOf : Option Exp → Int
  | none => -1
  | some x => x.pos

set_option maxHeartbeats 1000000 in
theorem exportAt_any (l : List Exp) (v : Value) (name : ByteArray) (w : World) (hrow : RowOf 2 Exp.cell w.heap.size w v l) :
    Calls Try.prog 52 #[v, .string name] w fun e w' => e = .returned (.int .i64 (posOf (expOf l name))) ∧ Below w.heap.size w w' := by
  obtain ⟨a, cap, rfl, _, hrow⟩ := hrow
  go_enter Try.func52, Try.ntmps52
  go_wp2_with fail
  go_loopw [5] (fun i wr => ∃ (k : Nat), k ≤ l.length ∧ i = .int .i64 k ∧ Hid (expOf l name = expOf (l.drop k) name) ∧ Below w.heap.size w wr) (fun i _ => l.length - (intOf i).toNat)
  case atStart => exact ⟨0, Nat.zero_le _, rfl, by show expOf l name = expOf (l.drop 0) name; rfl, Below.refl _ _⟩
  case round =>
    obtain ⟨k, hk, rfl, HC, B⟩ := hrel
    by_cases hlt : k < l.length
    · obtain ⟨x, hx⟩ : ∃ x, l[k]? = some x := ⟨_, List.getElem?_eq_getElem hlt⟩
      rcases hrow with h | ⟨b, off, rfl, hbn, hcells⟩
      · subst h; simp at hlt
      have c0 := (B.cell (p := ⟨b, off + k * 2 + 0, none⟩) hbn).trans (hcells k _ hx 0 (by omega))
      have c1 := (B.cell (p := ⟨b, off + k * 2 + 1, none⟩) hbn).trans (hcells k _ hx 1 (by omega))
      dsimp only [Exp.cell] at c0 c1
      rw [Nat.add_zero] at c0
      have hC := HC.out
      rw [drop_at hx] at hC
      unfold expOf at hC
      rw [List.find?_cons] at hC
      cases hq : x.name == name
      · rw [hq] at hC
        have HR : Hid (expOf l name = expOf (l.drop (k + 1)) name) := hC
        clear hC HC hcells hx
        rw [← toList_beq2] at hq
        go_wp2
        exact ⟨⟨k + 1, by omega, by go_num, HR.out, B⟩, by simp [intOf]; omega⟩
      · rw [hq] at hC
        have HR : Hid (expOf l name = some x) := hC
        clear hC HC hcells hx
        rw [← toList_beq2] at hq
        go_wp2
        go_ret
        exact ⟨by rw [HR.out]; rfl, B⟩
    · obtain rfl : k = l.length := by omega
      have HZ : Hid (expOf l name = none) := by
        show expOf l name = none
        rw [HC.out, List.drop_length]; rfl
      go_wp2
      go_ret
      exact ⟨by rw [HZ.out]; rfl, B⟩

set_option maxHeartbeats 1000000 in
theorem placeOf_any (l : List PV) (v : Value) (name : ByteArray) (w : World) (hrow : RowOf 8 PV.cell w.heap.size w v l) :
    Calls Try.prog 31 #[v, .string name] w fun e w' => e = .returned (.int .i64 (idxFrom (fun x : PV => x.mod.name == name) 0 l)) ∧ Below w.heap.size w w' := by
  obtain ⟨a, cap, rfl, _, hrow⟩ := hrow
  have HST : Hid (∀ k x r, idxFrom (fun x : PV => x.mod.name == name) k (x :: r) = if (x.mod.name == name) = true then (k : Int) else idxFrom (fun x : PV => x.mod.name == name) (k + 1) r) := fun _ _ _ => rfl
  have HNL : Hid (∀ k, idxFrom (fun x : PV => x.mod.name == name) k [] = -1) := fun _ => rfl
  generalize idxFrom (fun x : PV => x.mod.name == name) = IX at *
  go_enter Try.func31, Try.ntmps31
  go_wp2_with fail
  go_loopw [5] (fun i wr => ∃ (k : Nat), k ≤ l.length ∧ i = .int .i64 k ∧ Hid (IX 0 l = IX k (l.drop k)) ∧ Below w.heap.size w wr) (fun i _ => l.length - (intOf i).toNat)
  case atStart => exact ⟨0, Nat.zero_le _, rfl, by show IX 0 l = IX 0 (l.drop 0); rfl, Below.refl _ _⟩
  case round =>
    obtain ⟨k, hk, rfl, HC, B⟩ := hrel
    by_cases hlt : k < l.length
    · obtain ⟨x, hx⟩ : ∃ x, l[k]? = some x := ⟨_, List.getElem?_eq_getElem hlt⟩
      rcases hrow with h | ⟨b, off, rfl, hbn, hcells⟩
      · subst h; simp at hlt
      have c0 := (B.cell (p := ⟨b, off + k * 8 + 0, none⟩) hbn).trans (hcells k _ hx 0 (by omega))
      dsimp only [PV.cell] at c0
      rw [Nat.add_zero] at c0
      have hC := HC.out
      rw [drop_at hx, HST.out] at hC
      cases hq : x.mod.name == name
      · rw [hq, if_neg (by decide)] at hC
        have HR : Hid (IX 0 l = IX (k + 1) (l.drop (k + 1))) := hC
        clear hC HC hcells hx
        rw [← toList_beq2] at hq
        go_wp2
        exact ⟨⟨k + 1, by omega, by go_num, HR.out, B⟩, by simp [intOf]; omega⟩
      · rw [hq, if_pos rfl] at hC
        have HR : Hid (IX 0 l = k) := hC
        clear hC HC hcells hx
        rw [← toList_beq2] at hq
        go_wp2
        go_ret
        exact ⟨by rw [HR.out]; rfl, B⟩
    · obtain rfl : k = l.length := by omega
      have HZ : Hid (IX 0 l = -1) := by
        show IX 0 l = -1
        rw [HC.out, List.drop_length, HNL.out]
      go_wp2
      go_ret
      exact ⟨by rw [HZ.out]; rfl, B⟩

end Go.Proofs.Ytaklbnabgcglhab
