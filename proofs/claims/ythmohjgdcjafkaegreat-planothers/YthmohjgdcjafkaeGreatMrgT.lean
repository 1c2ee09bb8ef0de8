/- Texts that are laid together. -/
import Derived.Test.YthmohjgdcjafkaeGreatMrgK
import Derived.Test.YthmohjgdcjafkaeGreatMrgS
import Derived.Test.YthmohjgdcjafkaeGreatMrgM
import Derived.Test.YthmohjgdcjafkaeGreatMrgB
import Derived.ProofKit
import Derived.OpenShut
import Derived.ShutString
import Derived.ChangeOld
import Derived.SizedLaws
import Derived.Below
import Derived.Carry
import Derived.Deep.Slices

/- What an order is. -/
namespace Go.Proofs.YthmohjgdcjafkaeGreat
open Go.RowKit Go.PlainAid

theorem ord_err {L : List Plc} (h : (ordOf L).2 ≠ 0) : (ordOf L).1 = [] := by
  rcases ordOf_cases L with ⟨_, e⟩ | ⟨_, e⟩
  · rw [e]
  · rw [e] at h ⊢
    unfold ordRes at h ⊢
    split
    · rfl
    · rename_i c hc
      rw [hc] at h
      exact absurd rfl h
theorem ord_ok {L : List Plc} (h : (ordOf L).2 = 0) : chkGraph L = 0 ∧ orderFrom (risen L) (risen L).length [] = some (ordOf L).1 := by
  rcases ordOf_cases L with ⟨h1, e⟩ | ⟨h1, e⟩
  · rw [e] at h
    exact absurd h h1
  · refine ⟨h1, ?_⟩
    rw [e] at h ⊢
    unfold ordRes at h ⊢
    split
    · rename_i hc
      rw [hc] at h
      exact absurd h (by decide)
    · rename_i c hc
      exact hc
theorem comeErr_of {L : List Plc} {name : ByteArray} (h0 : chkGraph L = 0) {m : Mod} (hm : m ∈ L.map (·.mod)) (hn : m.name = name) : comeErr L name = 0 := by
  unfold comeErr
  rw [if_neg (by omega), if_pos]
  obtain ⟨p, hp, rfl⟩ := List.mem_map.1 hm
  exact List.any_eq_true.2 ⟨p, hp, (Go.MapKept.bytes_beq _ _).2 hn⟩
theorem ord_facts {L : List Plc} (h : (ordOf L).2 = 0) : (ordOf L).1.length = L.length ∧ ∀ (i : Nat) (x : ByteArray), (ordOf L).1[i]? = some x → comeErr L x = 0 ∧ (((ordOf L).1.take i).any fun y => y == x) = false ∧ ∀ ns, ComeRes nxNeed L x ns → ∀ z ∈ ns, (((ordOf L).1.take i).any fun y => y == z) = true := by
  obtain ⟨h0, h1⟩ := ord_ok h
  obtain ⟨h2, h3, _⟩ := order_stands .nil h1
  generalize (ordOf L).1 = c at *
  have hd := chk_nodup h0
  refine ⟨by rw [h3, (risen_perm L).length_eq]; simp, fun i x hx => ?_⟩
  obtain ⟨m, hm, hmx, hnot, _⟩ := h2.at i x hx
  have hm2 := (risen_perm L).mem_iff.1 hm
  have he := comeErr_of h0 hm2 hmx
  refine ⟨he, ?_, fun ns hns z hz => ?_⟩
  · rw [← Bool.not_eq_true, any_mem]
    exact hnot
  · obtain ⟨f, hf, hfn, hc⟩ := hns.ok he
    obtain ⟨k, hk, rfl⟩ := (hc.2 z).1 hz
    rw [any_mem]
    exact h2.via (risen_perm L) hd hk i (by rw [hfn]; exact hx)

theorem RowOf.take {α : Type} {sz : Nat} {cells : α → Nat → Value} {n₀ : Nat} {W : World} {a : Option Addr} {n cap : Nat} {l : List α} (h : RowOf sz cells n₀ W (.slice a n cap) l) (k : Nat) (hk : k ≤ l.length) : RowOf sz cells n₀ W (.slice a k cap) (l.take k) := by
  obtain ⟨a', cap', e, hm, h⟩ := h
  injection e with e1 e2 e3
  subst e1 e3
  refine ⟨a, cap, by rw [List.length_take, Nat.min_eq_left hk], by rw [List.length_take]; omega, ?_⟩
  rcases h with h | ⟨b, off, rfl, hb, hc⟩
  · exact .inl (by rw [h]; simp)
  · refine .inr ⟨b, off, rfl, hb, fun j x hj i hi => hc j x ?_ i hi⟩
    rw [List.getElem?_take] at hj
    split at hj
    · exact hj
    · cases hj

end Go.Proofs.YthmohjgdcjafkaeGreat

/- What is installed can be removed, and be put in anew: as data. -/
namespace Go.Proofs.YthmohjgdcjafkaeGreat
open Go.RowKit Go.PlainAid Go.Lib

theorem asks_self {K : Ker} {L : List Plc} (h : chkRg K L = 0) : ∀ p ∈ L, asksM p.mod p.mod.name = false := by
  intro p hp
  cases ha : asksM p.mod p.mod.name with
  | false => rfl
  | true =>
    exfalso
    obtain ⟨h0, h1⟩ := ord_ok (chkRg_zero h).2.1
    obtain ⟨h2, h3, _⟩ := order_stands .nil h1
    obtain ⟨i, hi⟩ := List.mem_iff_getElem?.1 hp
    have hm : (L.map (·.mod))[i]? = some p.mod := by rw [List.getElem?_map, hi]; rfl
    exact h2.noRound (risen_perm L) (chk_nodup h0) (by rw [h3, (risen_perm L).length_eq]; simp) i (Via.one ⟨p.mod, p.mod, hm, hm, ha⟩)
theorem addrs_all {K : Ker} {L : List Plc} : ∀ {is : List Imp} {acc : List Int}, (addrsFrom K L acc is).2 = 0 → ∀ i ∈ is, (addrOf K L i).2 = 0
  | [], _, _, i, hi => by simp at hi
  | x :: r, acc, h, i, hi => by
    unfold addrsFrom at h
    by_cases hx : (addrOf K L x).2 = 0
    · rw [if_neg (by omega)] at h
      rcases List.mem_cons.1 hi with rfl | hi
      · exact hx
      · exact addrs_all h i hi
    · rw [if_pos hx] at h
      exact absurd h hx
theorem all_right {K : Ker} {L : List Plc} (h : chkRg K L = 0) {p : Plc} (hp : p ∈ L) : ∀ i ∈ p.mod.imps, (addrOf K L i).2 = 0 := by
  obtain ⟨h1, h2, h3⟩ := chkRg_zero h
  have hr := (chkLink_zero h1).2.1
  obtain ⟨_, e, h4⟩ := areaOf_zero h3
  obtain ⟨g1, _, g3, _⟩ := area_byte (K := K) (L := L) L ⟨#[]⟩ 0 (chkReg_zero.1 hr).2.2 (Nat.le_refl _) h4
  have hi := (g3 p hp).1
  have n1 : (allRes K L p.mod).2 = 0 := by
    rcases imgRes_cases K L p with ⟨n1, e⟩ | ⟨n1, n2, e⟩ | ⟨n1, _, _⟩
    · rw [e] at hi; exact absurd hi n1
    · exact n1
    · exact n1
  rcases allRes_cases K L p.mod with ⟨c, e⟩ | ⟨_, c, e⟩ | ⟨_, _, e⟩
  · rw [e] at n1; exact absurd n1 c
  · rw [e] at n1; exact absurd n1 c
  · rw [e] at n1
    exact addrs_all n1
theorem asks_there {K : Ker} {L : List Plc} (h : chkRg K L = 0) {p : Plc} (hp : p ∈ L) {n : ByteArray} (ha : asksM p.mod n = true) : n = kernelName ∨ ∃ q ∈ L, q.mod.name = n := by
  unfold asksM at ha
  obtain ⟨i, hi, hn⟩ := List.any_eq_true.1 ha
  obtain rfl := (Go.MapKept.bytes_beq _ _).1 hn
  have h0 := all_right h hp i hi
  unfold addrOf at h0
  cases ht : tgtOf K L i.mod with
  | none => rw [ht] at h0; cases h0
  | some t =>
    unfold tgtOf at ht
    cases hk : (i.mod == kernelName) with
    | true => exact .inl ((Go.MapKept.bytes_beq _ _).1 hk)
    | false =>
      rw [hk, if_neg (by decide)] at ht
      cases hf : L.find? fun p => p.mod.name == i.mod with
      | none => rw [hf] at ht; cases ht
      | some q =>
        have := List.find?_some hf
        exact .inr ⟨q, List.mem_of_find?_eq_some hf, (Go.MapKept.bytes_beq _ _).1 (by simpa using this)⟩
theorem putI_erase {α : Type} (l : List α) (i : Nat) (x : α) (hi : i ≤ l.length) : (putI l i x).eraseIdx i = l ∧ (putI l i x)[i]? = some x := by
  unfold putI
  have ht : (l.take i).length = i := by rw [List.length_take]; omega
  refine ⟨?_, ?_⟩
  · rw [List.eraseIdx_append_of_length_le (by omega), ht, Nat.sub_self, List.eraseIdx_cons_zero, List.take_append_drop]
  · rw [List.getElem?_append_right (by omega), ht, Nat.sub_self]
    rfl
theorem put_at (L : List Plc) (x : Plc) : ∃ i : Nat, i ≤ L.length ∧ putAt L x = putI L i x := by
  rcases put_cases L x with ⟨_, h⟩ | ⟨j, h1, _, h⟩
  · exact ⟨_, Nat.le_refl _, h⟩
  · exact ⟨j, Nat.le_of_lt h1, h⟩
theorem back_data {K : Ker} {L : List Plc} {M : Mod} (h : (planRes K L (instDo L M)).2 = 0) : ∃ L', planRes K L (instDo L M) = ((K, L'), 0) ∧ (planRes K L' (instDo L' M)).2 = 6 ∧ planRes K L' (remDo L' M.name) = ((K, L), 0) ∧ planRes K L' (upDo L' M) = ((K, L'), 0) := by
  obtain ⟨h1, h2, h3, h4, f, h5, h6, h7, h8⟩ := inst_ok h
  refine ⟨putAt L ⟨M, f⟩, h8, ?_, ?_, ?_⟩
  all_goals
    have hmem : (⟨M, f⟩ : Plc) ∈ putAt L ⟨M, f⟩ := mem_putAt.2 (.inl rfl)
  · have hany : ((putAt L ⟨M, f⟩).any fun p => p.mod.name == M.name) = true := List.any_eq_true.2 ⟨_, hmem, (Go.MapKept.bytes_beq _ _).2 rfl⟩
    have hd : instDo (putAt L ⟨M, f⟩) M = ([], 6) := by
      unfold instDo
      rw [if_neg (by omega), hany, if_pos rfl]
    rw [hd]
    unfold planRes
    rw [if_neg (by omega), if_pos (by decide)]
  all_goals
    obtain ⟨i, hi, hp⟩ := put_at L ⟨M, f⟩
    have he := putI_erase L i (⟨M, f⟩ : Plc) hi
    rw [← hp] at he
    have hix : nameIx (putAt L ⟨M, f⟩) M.name = (i : Int) := by
      have := ix_name 0 (rg_names h7) he.2
      rw [Nat.zero_add] at this
      exact this
  · have hr : remDo (putAt L ⟨M, f⟩) M.name = (L, 0) := by
      rw [remDo_at hix]
      unfold remAt
      rw [he.1, if_neg]
      intro ha
      obtain ⟨p, hp', ha⟩ := List.any_eq_true.1 ha
      rcases mem_putAt.1 hp' with rfl | hp'
      · rw [asks_self h7 _ hmem] at ha
        cases ha
      · rcases asks_there h1 hp' ha with hk | ⟨q, hq, hn⟩
        · have := (chkMod_exps h2).2.2.2.2.2.2
          rw [hk, (Go.MapKept.bytes_beq _ _).2 rfl] at this
          cases this
        · exact h3 q hq hn
    rw [hr]
    unfold planRes
    rw [if_neg (by omega), if_neg (by simp), if_neg (by simpa using h1)]
  · have hu : upDo (putAt L ⟨M, f⟩) M = (putAt L ⟨M, f⟩, 0) := by
      have hs := szM_bd h2
      rw [upDo_at h2 hix he.2, room_same (many := szM M) (rg_reg h7) he.2 (by omega) (Nat.le_refl _), he.1]
      rfl
    rw [hu]
    unfold planRes
    rw [if_neg (by omega), if_neg (by simp), if_neg (by simpa using h7)]

end Go.Proofs.YthmohjgdcjafkaeGreat

/- All other modules lie where they lay: as data. -/
namespace Go.Proofs.YthmohjgdcjafkaeGreat
open Go.RowKit Go.PlainAid Go.Lib

/-- What comes of a registry that is right, or that there is none. -/
def OtherAlt (K : Ker) (L : List Plc) (R : (Ker × List Plc) × Int) (n : ByteArray) (d : Int) : Prop :=
  R.2 ≠ 0 ∨ (R.2 = 0 ∧ R.1.1 = K ∧ chkRg K L = 0 ∧ chkRg K R.1.2 = 0 ∧ (R.1.2.length : Int) = L.length + d ∧ (∀ p ∈ L, p.mod.name ≠ n → p ∈ R.1.2) ∧ ∀ p ∈ R.1.2, p.mod.name ≠ n → p ∈ L)
theorem mem_erase_or {α : Type} : ∀ {l : List α} {j : Nat} {x p : α}, l[j]? = some x → p ∈ l → p = x ∨ p ∈ l.eraseIdx j
  | [], _, _, _, h, _ => by simp at h
  | y :: l, 0, x, p, h, hp => by
    obtain rfl : y = x := by simpa using h
    rcases List.mem_cons.1 hp with rfl | hp
    · exact .inl rfl
    · exact .inr hp
  | y :: l, j + 1, x, p, h, hp => by
    rw [List.eraseIdx_cons_succ]
    rcases List.mem_cons.1 hp with rfl | hp
    · exact .inr (by simp)
    · rcases mem_erase_or (j := j) (by simpa using h) hp with g | g
      · exact .inl g
      · exact .inr (List.mem_cons_of_mem _ g)
theorem inst_alt (K : Ker) (L : List Plc) (M : Mod) : OtherAlt K L (planRes K L (instDo L M)) M.name 1 := by
  by_cases h : (planRes K L (instDo L M)).2 = 0
  · obtain ⟨h1, h2, h3, h4, f, h5, h6, h7, h8⟩ := inst_ok h
    right
    rw [h8]
    refine ⟨rfl, rfl, h1, h7, by rw [putAt_length]; omega, fun p hp _ => mem_putAt.2 (.inr hp), fun p hp hn => ?_⟩
    rcases mem_putAt.1 hp with rfl | hp
    · exact absurd rfl hn
    · exact hp
  · exact .inl h
theorem rem_alt (K : Ker) (L : List Plc) (n : ByteArray) : OtherAlt K L (planRes K L (remDo L n)) n (-1) := by
  by_cases h : (planRes K L (remDo L n)).2 = 0
  · obtain ⟨h1, j, p, h2, h3, h4, h5, h6, h7, h8⟩ := rem_ok h
    right
    rw [h8]
    have hj := (List.getElem?_eq_some_iff.1 h3).1
    refine ⟨rfl, rfl, h1, h7, by rw [List.length_eraseIdx_of_lt hj]; omega, fun q hq hn => ?_, fun q hq _ => List.mem_of_mem_eraseIdx hq⟩
    rcases mem_erase_or h3 hq with rfl | g
    · exact absurd h4 hn
    · exact g
  · exact .inl h
theorem up_alt (K : Ker) (L : List Plc) (M : Mod) : OtherAlt K L (planRes K L (upDo L M)) M.name 0 := by
  by_cases h : (planRes K L (upDo L M)).2 = 0
  · obtain ⟨h1, h2, j, p, f, h3, h4, h5, h6, h7, h8, h9⟩ := up_ok h
    right
    rw [h9]
    have hj := (List.getElem?_eq_some_iff.1 h4).1
    refine ⟨rfl, rfl, h1, h8, by rw [putAt_length, List.length_eraseIdx_of_lt hj]; omega, fun q hq hn => ?_, fun q hq hn => ?_⟩
    · rcases mem_erase_or h4 hq with rfl | g
      · exact absurd h5 hn
      · exact mem_putAt.2 (.inr g)
    · rcases mem_putAt.1 hq with rfl | hq
      · exact absurd rfl hn
      · exact List.mem_of_mem_eraseIdx hq
  · exact .inl h
/-- All of one list are found in another one. -/
theorem others_found {K : Ker} {l l' : List PV} {n : ByteArray} (hc : chkRg K (l'.map PV.plc) = 0) (hs : ∀ p ∈ l.map PV.plc, p.mod.name ≠ n → p ∈ l'.map PV.plc) : ∀ x ∈ l, x.mod.name ≠ n → ∃ (j : Nat) (y : PV), l'[j]? = some y ∧ ixFrom (fun z : PV => z.mod.name == x.mod.name) 0 l' = (j : Int) ∧ y.plc = x.plc := by
  intro x hx hn
  obtain ⟨j, y, h1, h2, h3⟩ := ix_pv (rg_names hc) (hs x.plc (List.mem_map_of_mem hx) hn)
  exact ⟨j, y, h1, h3, h2⟩

end Go.Proofs.YthmohjgdcjafkaeGreat

/- The walk of the law PlanOthers: it returns true. Printed by genpo.py. -/
namespace Go.Proofs.YthmohjgdcjafkaeGreat.planOthers
open Go.RowKit Go.PlainAid Go.Lib

set_option maxRecDepth 100000

set_option maxHeartbeats 64000000 in
theorem walk (K : Ker) (l : List PV) (v : Value) (M : Mod) (vm : Value) (name : ByteArray) (w : World) (h : IsReg w.heap.size w v K l) (hf : K.fits) (hfit : ∀ x ∈ l, x.mod.fits) (hm : IsMod w.heap.size w vm M) (hmf : M.fits) (_ : name.size ≤ 140737488351232) :
    Calls Tryz.prog 4 #[v, vm, .string name] w fun e w' => e = .returned (.bool true) ∧ Below w.heap.size w w' := by
  have HIN : Hid (∀ W, IsReg W.heap.size W v K l → IsMod W.heap.size W vm M → Calls Tryz.prog 9 #[v, vm] W fun e w' => (∃ (v' : Value) (l' : List PV) (AK : Ker) (ae : Int), e = .returned (.tuple #[v', .int .i64 ae]) ∧ (∀ x ∈ l', x.mod.fits) ∧ IsReg w'.heap.size w' v' AK l' ∧ OtherAlt K (l.map PV.plc) ((AK, l'.map PV.plc), ae) M.name 1) ∧ Below W.heap.size W w') := fun W hr hM => by
    refine (plInstall_any K l v M vm W hr hf hfit hM hmf).mono ?_
    rintro e w' ⟨⟨v', l', rfl, hp, hft, ho⟩, hb⟩
    have hi := planRes_reg hp ho
    have ha := inst_alt K (l.map PV.plc) M
    generalize planRes K (l.map PV.plc) (instDo (l.map PV.plc) M) = PR at *
    obtain ⟨⟨AK, AL⟩, ae⟩ := PR
    dsimp only at *
    subst hp
    exact ⟨⟨v', l', AK, ae, rfl, hft, hi, ha⟩, hb⟩
  have HRM : Hid (∀ W, IsReg W.heap.size W v K l → Calls Tryz.prog 10 #[v, .string name] W fun e w' => (∃ (v' : Value) (l' : List PV) (AK : Ker) (ae : Int), e = .returned (.tuple #[v', .int .i64 ae]) ∧ (∀ x ∈ l', x.mod.fits) ∧ IsReg w'.heap.size w' v' AK l' ∧ OtherAlt K (l.map PV.plc) ((AK, l'.map PV.plc), ae) name (-1)) ∧ Below W.heap.size W w') := fun W hr => by
    refine (plRemove_any K l v name W hr hf hfit).mono ?_
    rintro e w' ⟨⟨v', l', rfl, hp, hft, ho⟩, hb⟩
    have hi := planRes_reg hp ho
    have ha := rem_alt K (l.map PV.plc) name
    generalize planRes K (l.map PV.plc) (remDo (l.map PV.plc) name) = PR at *
    obtain ⟨⟨AK, AL⟩, ae⟩ := PR
    dsimp only at *
    subst hp
    exact ⟨⟨v', l', AK, ae, rfl, hft, hi, ha⟩, hb⟩
  have HUP : Hid (∀ W, IsReg W.heap.size W v K l → IsMod W.heap.size W vm M → Calls Tryz.prog 11 #[v, vm] W fun e w' => (∃ (v' : Value) (l' : List PV) (AK : Ker) (ae : Int), e = .returned (.tuple #[v', .int .i64 ae]) ∧ (∀ x ∈ l', x.mod.fits) ∧ IsReg w'.heap.size w' v' AK l' ∧ OtherAlt K (l.map PV.plc) ((AK, l'.map PV.plc), ae) M.name 0) ∧ Below W.heap.size W w') := fun W hr hM => by
    refine (plUpgrade_any K l v M vm W hr hf hfit hM hmf).mono ?_
    rintro e w' ⟨⟨v', l', rfl, hp, hft, ho⟩, hb⟩
    have hi := planRes_reg hp ho
    have ha := up_alt K (l.map PV.plc) M
    generalize planRes K (l.map PV.plc) (upDo (l.map PV.plc) M) = PR at *
    obtain ⟨⟨AK, AL⟩, ae⟩ := PR
    dsimp only at *
    subst hp
    exact ⟨⟨v', l', AK, ae, rfl, hft, hi, ha⟩, hb⟩
  have HCH : Hid (∀ (l1 : List PV) v1 W, (∀ x ∈ l1, x.mod.fits) → chkRg K (l1.map PV.plc) = 0 → IsReg W.heap.size W v1 K l1 → Calls Tryz.prog 19 #[v1] W fun e w' => e = .returned (.int .i64 0) ∧ Below W.heap.size W w') := fun l1 v1 W hft hc hr => by
    have := regCheck_any K l1 v1 W hr hf hft
    rw [hc] at this
    exact this
  have HLN : Hid (chkRg K (l.map PV.plc) = 0 → l.length ≤ 8) := fun hc => (reg_lens (rg_reg hc)).1
  have HR_r : Hid (IsReg w.heap.size w v K l) := h
  have HM_m : Hid (IsMod w.heap.size w vm M) := hm
  obtain ⟨qe, je, a, cap, rfl⟩ := h.shape0
  obtain ⟨vxe, vxi, vxp, rfl, hxE, hxI, hxP⟩ := hm
  obtain ⟨pe, ke, e4, -⟩ := hxE
  obtain ⟨pi, ki, e5, -⟩ := hxI
  obtain ⟨pp, kp, e6, -⟩ := hxP
  subst e4 e5 e6
  clear h hf hfit hmf
  generalize hlk : K.exps.length = lk at *
  have HLK : Hid (K.exps.length = lk) := hlk
  clear hlk
  generalize M.exps.length = le at *
  generalize M.imps.length = li at *
  generalize M.pats.length = lp at *
  have HB0 : Hid (Below w.heap.size w w) := Below.refl _ _
  go_enter Tryz.func4, Tryz.ntmps4
  have ba : Below w.heap.size w (w.alloc (.cells #[.int .i64 K.major, .int .i64 K.minor, .slice qe lk je, .slice a l.length cap] 27)) := (Below.refl _ _).alloc (Nat.le_refl _) _
  have olw_g1 : w.heap.size ≤ w.heap.size := HB0.out.size
  have HB1 : Hid (Below w.heap.size w (w.alloc (.cells #[.int .i64 K.major, .int .i64 K.minor, .slice qe lk je, .slice a l.length cap] 27))) := HB0.out.trans (ba.mono HB0.out.size)
  have HR1_r : Hid (IsReg (w.alloc (.cells #[.int .i64 K.major, .int .i64 K.minor, .slice qe lk je, .slice a l.length cap] 27)).heap.size (w.alloc (.cells #[.int .i64 K.major, .int .i64 K.minor, .slice qe lk je, .slice a l.length cap] 27)) (.agg #[.int .i64 K.major, .int .i64 K.minor, .slice qe lk je, .slice a l.length cap]) K l) := (HR_r.out.below ba).more ba.size
  have HM1_m : Hid (IsMod (w.alloc (.cells #[.int .i64 K.major, .int .i64 K.minor, .slice qe lk je, .slice a l.length cap] 27)).heap.size (w.alloc (.cells #[.int .i64 K.major, .int .i64 K.minor, .slice qe lk je, .slice a l.length cap] 27)) (.agg #[.string M.name, .int .i64 M.major, .int .i64 M.minor, .string M.text, .slice pe le ke, .slice pi li ki, .slice pp lp kp]) M) := (HM_m.out.below ba).more ba.size
  clear HB0 HR_r HM_m
  clear ba
  have HC2_g1 : Hid (CellsAt (w.alloc (.cells #[.int .i64 K.major, .int .i64 K.minor, .slice qe lk je, .slice a l.length cap] 27)) w.heap.size 27 #[.int .i64 K.major, .int .i64 K.minor, .slice qe lk je, .slice a l.length cap]) := CellsAt.new _ _ _
  have ba : Below (w.alloc (.cells #[.int .i64 K.major, .int .i64 K.minor, .slice qe lk je, .slice a l.length cap] 27)).heap.size (w.alloc (.cells #[.int .i64 K.major, .int .i64 K.minor, .slice qe lk je, .slice a l.length cap] 27)) ((w.alloc (.cells #[.int .i64 K.major, .int .i64 K.minor, .slice qe lk je, .slice a l.length cap] 27)).alloc (.cells #[.string M.name, .int .i64 M.major, .int .i64 M.minor, .string M.text, .slice pe le ke, .slice pi li ki, .slice pp lp kp] 31)) := (Below.refl _ _).alloc (Nat.le_refl _) _
  have ol_g1_g2 : w.heap.size < (w.alloc (.cells #[.int .i64 K.major, .int .i64 K.minor, .slice qe lk je, .slice a l.length cap] 27)).heap.size := CellsAt.lt HC2_g1.out
  have olw_g2 : w.heap.size ≤ (w.alloc (.cells #[.int .i64 K.major, .int .i64 K.minor, .slice qe lk je, .slice a l.length cap] 27)).heap.size := HB1.out.size
  have HB3 : Hid (Below w.heap.size w ((w.alloc (.cells #[.int .i64 K.major, .int .i64 K.minor, .slice qe lk je, .slice a l.length cap] 27)).alloc (.cells #[.string M.name, .int .i64 M.major, .int .i64 M.minor, .string M.text, .slice pe le ke, .slice pi li ki, .slice pp lp kp] 31))) := HB1.out.trans (ba.mono HB1.out.size)
  have HC3_g1 : Hid (CellsAt ((w.alloc (.cells #[.int .i64 K.major, .int .i64 K.minor, .slice qe lk je, .slice a l.length cap] 27)).alloc (.cells #[.string M.name, .int .i64 M.major, .int .i64 M.minor, .string M.text, .slice pe le ke, .slice pi li ki, .slice pp lp kp] 31)) w.heap.size 27 #[.int .i64 K.major, .int .i64 K.minor, .slice qe lk je, .slice a l.length cap]) := HC2_g1.out.below ba HC2_g1.out.lt
  have HR3_r : Hid (IsReg ((w.alloc (.cells #[.int .i64 K.major, .int .i64 K.minor, .slice qe lk je, .slice a l.length cap] 27)).alloc (.cells #[.string M.name, .int .i64 M.major, .int .i64 M.minor, .string M.text, .slice pe le ke, .slice pi li ki, .slice pp lp kp] 31)).heap.size ((w.alloc (.cells #[.int .i64 K.major, .int .i64 K.minor, .slice qe lk je, .slice a l.length cap] 27)).alloc (.cells #[.string M.name, .int .i64 M.major, .int .i64 M.minor, .string M.text, .slice pe le ke, .slice pi li ki, .slice pp lp kp] 31)) (.agg #[.int .i64 K.major, .int .i64 K.minor, .slice qe lk je, .slice a l.length cap]) K l) := (HR1_r.out.below ba).more ba.size
  have HM3_m : Hid (IsMod ((w.alloc (.cells #[.int .i64 K.major, .int .i64 K.minor, .slice qe lk je, .slice a l.length cap] 27)).alloc (.cells #[.string M.name, .int .i64 M.major, .int .i64 M.minor, .string M.text, .slice pe le ke, .slice pi li ki, .slice pp lp kp] 31)).heap.size ((w.alloc (.cells #[.int .i64 K.major, .int .i64 K.minor, .slice qe lk je, .slice a l.length cap] 27)).alloc (.cells #[.string M.name, .int .i64 M.major, .int .i64 M.minor, .string M.text, .slice pe le ke, .slice pi li ki, .slice pp lp kp] 31)) (.agg #[.string M.name, .int .i64 M.major, .int .i64 M.minor, .string M.text, .slice pe le ke, .slice pi li ki, .slice pp lp kp]) M) := (HM1_m.out.below ba).more ba.size
  clear HB1 HC2_g1 HR1_r HM1_m
  clear ba
  have HC4_g2 : Hid (CellsAt ((w.alloc (.cells #[.int .i64 K.major, .int .i64 K.minor, .slice qe lk je, .slice a l.length cap] 27)).alloc (.cells #[.string M.name, .int .i64 M.major, .int .i64 M.minor, .string M.text, .slice pe le ke, .slice pi li ki, .slice pp lp kp] 31)) (w.alloc (.cells #[.int .i64 K.major, .int .i64 K.minor, .slice qe lk je, .slice a l.length cap] 27)).heap.size 31 #[.string M.name, .int .i64 M.major, .int .i64 M.minor, .string M.text, .slice pe le ke, .slice pi li ki, .slice pp lp kp]) := CellsAt.new _ _ _
  rw [World.size_alloc] at HC4_g2
  clear ol_g1_g2 olw_g2 olw_g1
  go_wp2_with fail
  refine (planBegun_any _).mono ?_
  generalize ((w.alloc (.cells #[.int .i64 K.major, .int .i64 K.minor, .slice qe lk je, .slice a l.length cap] 27)).alloc (.cells #[.string M.name, .int .i64 M.major, .int .i64 M.minor, .string M.text, .slice pe le ke, .slice pi li ki, .slice pp lp kp] 31)) = w2 at *
  rintro e w3 ⟨rfl, b3⟩
  have HB5 : Hid (Below w.heap.size w w3) := HB3.out.trans (b3.mono HB3.out.size)
  have HC5_g1 : Hid (CellsAt w3 w.heap.size 27 #[.int .i64 K.major, .int .i64 K.minor, .slice qe lk je, .slice a l.length cap]) := HC3_g1.out.below b3 HC3_g1.out.lt
  have HC5_g2 : Hid (CellsAt w3 (w.heap.size + 1) 31 #[.string M.name, .int .i64 M.major, .int .i64 M.minor, .string M.text, .slice pe le ke, .slice pi li ki, .slice pp lp kp]) := HC4_g2.out.below b3 HC4_g2.out.lt
  have HR5_r : Hid (IsReg w3.heap.size w3 (.agg #[.int .i64 K.major, .int .i64 K.minor, .slice qe lk je, .slice a l.length cap]) K l) := (HR3_r.out.below b3).more b3.size
  have HM5_m : Hid (IsMod w3.heap.size w3 (.agg #[.string M.name, .int .i64 M.major, .int .i64 M.minor, .string M.text, .slice pe le ke, .slice pi li ki, .slice pp lp kp]) M) := (HM3_m.out.below b3).more b3.size
  clear HB3 HC3_g1 HC4_g2 HR3_r HM3_m
  clear b3
  go_wp2_with fail
  refine (registryBegun_any _).mono ?_
  rintro e w4 ⟨rfl, b4⟩
  have HB6 : Hid (Below w.heap.size w w4) := HB5.out.trans (b4.mono HB5.out.size)
  have HC6_g1 : Hid (CellsAt w4 w.heap.size 27 #[.int .i64 K.major, .int .i64 K.minor, .slice qe lk je, .slice a l.length cap]) := HC5_g1.out.below b4 HC5_g1.out.lt
  have HC6_g2 : Hid (CellsAt w4 (w.heap.size + 1) 31 #[.string M.name, .int .i64 M.major, .int .i64 M.minor, .string M.text, .slice pe le ke, .slice pi li ki, .slice pp lp kp]) := HC5_g2.out.below b4 HC5_g2.out.lt
  have HR6_r : Hid (IsReg w4.heap.size w4 (.agg #[.int .i64 K.major, .int .i64 K.minor, .slice qe lk je, .slice a l.length cap]) K l) := (HR5_r.out.below b4).more b4.size
  have HM6_m : Hid (IsMod w4.heap.size w4 (.agg #[.string M.name, .int .i64 M.major, .int .i64 M.minor, .string M.text, .slice pe le ke, .slice pi li ki, .slice pp lp kp]) M) := (HM5_m.out.below b4).more b4.size
  clear HB5 HC5_g1 HC5_g2 HR5_r HM5_m
  clear b4
  have rg10 := CellsAt.cell HC6_g1.out 0
  have rg11 := CellsAt.cell HC6_g1.out 1
  have rg12 := CellsAt.cell HC6_g1.out 2
  have rg13 := CellsAt.cell HC6_g1.out 3
  have rg1l := CellsAt.lt HC6_g1.out
  simp at rg10 rg11 rg12 rg13
  have rg20 := CellsAt.cell HC6_g2.out 0
  have rg21 := CellsAt.cell HC6_g2.out 1
  have rg22 := CellsAt.cell HC6_g2.out 2
  have rg23 := CellsAt.cell HC6_g2.out 3
  have rg24 := CellsAt.cell HC6_g2.out 4
  have rg25 := CellsAt.cell HC6_g2.out 5
  have rg26 := CellsAt.cell HC6_g2.out 6
  have rg2l := CellsAt.lt HC6_g2.out
  simp at rg20 rg21 rg22 rg23 rg24 rg25 rg26
  go_wp2_with fail
  clear rg10 rg11 rg12 rg13 rg1l
  clear rg20 rg21 rg22 rg23 rg24 rg25 rg26 rg2l
  refine (HIN.out _ HR6_r.out HM6_m.out).mono ?_
  rintro e w5 ⟨⟨vA, lA, KA, eA, rfl, hfA, hiA, haA⟩, bA⟩
  have HB7 : Hid (Below w.heap.size w w5) := HB6.out.trans (bA.mono HB6.out.size)
  have HC7_g1 : Hid (CellsAt w5 w.heap.size 27 #[.int .i64 K.major, .int .i64 K.minor, .slice qe lk je, .slice a l.length cap]) := HC6_g1.out.below bA HC6_g1.out.lt
  have HC7_g2 : Hid (CellsAt w5 (w.heap.size + 1) 31 #[.string M.name, .int .i64 M.major, .int .i64 M.minor, .string M.text, .slice pe le ke, .slice pi li ki, .slice pp lp kp]) := HC6_g2.out.below bA HC6_g2.out.lt
  have HR7_r : Hid (IsReg w5.heap.size w5 (.agg #[.int .i64 K.major, .int .i64 K.minor, .slice qe lk je, .slice a l.length cap]) K l) := (HR6_r.out.below bA).more bA.size
  have HM7_m : Hid (IsMod w5.heap.size w5 (.agg #[.string M.name, .int .i64 M.major, .int .i64 M.minor, .string M.text, .slice pe le ke, .slice pi li ki, .slice pp lp kp]) M) := (HM6_m.out.below bA).more bA.size
  clear HB6 HC6_g1 HC6_g2 HR6_r HM6_m
  obtain ⟨qA, jA, aA, cA, rfl⟩ := hiA.shape0
  generalize hkA : KA.exps.length = kA at *
  have HFTA : Hid (∀ x ∈ lA, x.mod.fits) := hfA
  have HALA : Hid _ := haA
  have HKKA : Hid (KA.exps.length = kA) := hkA
  have HRNA : Hid (IsReg w5.heap.size w5 (.agg #[.int .i64 KA.major, .int .i64 KA.minor, .slice qA kA jA, .slice aA lA.length cA]) KA lA) := hiA
  clear bA hiA hfA haA hkA HIN
  have ba : Below w5.heap.size w5 (w5.alloc (.cells #[.int .i64 KA.major, .int .i64 KA.minor, .slice qA kA jA, .slice aA lA.length cA] 27)) := (Below.refl _ _).alloc (Nat.le_refl _) _
  have ol_g1_gA : w.heap.size < w5.heap.size := CellsAt.lt HC7_g1.out
  have ol_g2_gA : (w.heap.size + 1) < w5.heap.size := CellsAt.lt HC7_g2.out
  have olw_gA : w.heap.size ≤ w5.heap.size := HB7.out.size
  have HB8 : Hid (Below w.heap.size w (w5.alloc (.cells #[.int .i64 KA.major, .int .i64 KA.minor, .slice qA kA jA, .slice aA lA.length cA] 27))) := HB7.out.trans (ba.mono HB7.out.size)
  have HC8_g1 : Hid (CellsAt (w5.alloc (.cells #[.int .i64 KA.major, .int .i64 KA.minor, .slice qA kA jA, .slice aA lA.length cA] 27)) w.heap.size 27 #[.int .i64 K.major, .int .i64 K.minor, .slice qe lk je, .slice a l.length cap]) := HC7_g1.out.below ba HC7_g1.out.lt
  have HC8_g2 : Hid (CellsAt (w5.alloc (.cells #[.int .i64 KA.major, .int .i64 KA.minor, .slice qA kA jA, .slice aA lA.length cA] 27)) (w.heap.size + 1) 31 #[.string M.name, .int .i64 M.major, .int .i64 M.minor, .string M.text, .slice pe le ke, .slice pi li ki, .slice pp lp kp]) := HC7_g2.out.below ba HC7_g2.out.lt
  have HR8_r : Hid (IsReg (w5.alloc (.cells #[.int .i64 KA.major, .int .i64 KA.minor, .slice qA kA jA, .slice aA lA.length cA] 27)).heap.size (w5.alloc (.cells #[.int .i64 KA.major, .int .i64 KA.minor, .slice qA kA jA, .slice aA lA.length cA] 27)) (.agg #[.int .i64 K.major, .int .i64 K.minor, .slice qe lk je, .slice a l.length cap]) K l) := (HR7_r.out.below ba).more ba.size
  have HR8_A : Hid (IsReg (w5.alloc (.cells #[.int .i64 KA.major, .int .i64 KA.minor, .slice qA kA jA, .slice aA lA.length cA] 27)).heap.size (w5.alloc (.cells #[.int .i64 KA.major, .int .i64 KA.minor, .slice qA kA jA, .slice aA lA.length cA] 27)) (.agg #[.int .i64 KA.major, .int .i64 KA.minor, .slice qA kA jA, .slice aA lA.length cA]) KA lA) := (HRNA.out.below ba).more ba.size
  have HM8_m : Hid (IsMod (w5.alloc (.cells #[.int .i64 KA.major, .int .i64 KA.minor, .slice qA kA jA, .slice aA lA.length cA] 27)).heap.size (w5.alloc (.cells #[.int .i64 KA.major, .int .i64 KA.minor, .slice qA kA jA, .slice aA lA.length cA] 27)) (.agg #[.string M.name, .int .i64 M.major, .int .i64 M.minor, .string M.text, .slice pe le ke, .slice pi li ki, .slice pp lp kp]) M) := (HM7_m.out.below ba).more ba.size
  clear HB7 HC7_g1 HC7_g2 HR7_r HRNA HM7_m
  clear ba
  have HC9_gA : Hid (CellsAt (w5.alloc (.cells #[.int .i64 KA.major, .int .i64 KA.minor, .slice qA kA jA, .slice aA lA.length cA] 27)) w5.heap.size 27 #[.int .i64 KA.major, .int .i64 KA.minor, .slice qA kA jA, .slice aA lA.length cA]) := CellsAt.new _ _ _
  go_upto_region 4 with fail
  generalize (w5.alloc (.cells #[.int .i64 KA.major, .int .i64 KA.minor, .slice qA kA jA, .slice aA lA.length cA] 27)) = w6 at *
  generalize w5.heap.size = gA at *
  have rg10 := CellsAt.cell HC8_g1.out 0
  have rg11 := CellsAt.cell HC8_g1.out 1
  have rg12 := CellsAt.cell HC8_g1.out 2
  have rg13 := CellsAt.cell HC8_g1.out 3
  have rg1l := CellsAt.lt HC8_g1.out
  simp at rg10 rg11 rg12 rg13
  go_wp2_with fail
  clear rg10 rg11 rg12 rg13 rg1l
  refine (HRM.out _ HR8_r.out).mono ?_
  rintro e w7 ⟨⟨vB, lB, KB, eB, rfl, hfB, hiB, haB⟩, bB⟩
  have HB10 : Hid (Below w.heap.size w w7) := HB8.out.trans (bB.mono HB8.out.size)
  have HC10_g1 : Hid (CellsAt w7 w.heap.size 27 #[.int .i64 K.major, .int .i64 K.minor, .slice qe lk je, .slice a l.length cap]) := HC8_g1.out.below bB HC8_g1.out.lt
  have HC10_g2 : Hid (CellsAt w7 (w.heap.size + 1) 31 #[.string M.name, .int .i64 M.major, .int .i64 M.minor, .string M.text, .slice pe le ke, .slice pi li ki, .slice pp lp kp]) := HC8_g2.out.below bB HC8_g2.out.lt
  have HC10_gA : Hid (CellsAt w7 gA 27 #[.int .i64 KA.major, .int .i64 KA.minor, .slice qA kA jA, .slice aA lA.length cA]) := HC9_gA.out.below bB HC9_gA.out.lt
  have HR10_r : Hid (IsReg w7.heap.size w7 (.agg #[.int .i64 K.major, .int .i64 K.minor, .slice qe lk je, .slice a l.length cap]) K l) := (HR8_r.out.below bB).more bB.size
  have HR10_A : Hid (IsReg w7.heap.size w7 (.agg #[.int .i64 KA.major, .int .i64 KA.minor, .slice qA kA jA, .slice aA lA.length cA]) KA lA) := (HR8_A.out.below bB).more bB.size
  have HM10_m : Hid (IsMod w7.heap.size w7 (.agg #[.string M.name, .int .i64 M.major, .int .i64 M.minor, .string M.text, .slice pe le ke, .slice pi li ki, .slice pp lp kp]) M) := (HM8_m.out.below bB).more bB.size
  clear HB8 HC8_g1 HC8_g2 HC9_gA HR8_r HR8_A HM8_m
  obtain ⟨qB, jB, aB, cB, rfl⟩ := hiB.shape0
  generalize hkB : KB.exps.length = kB at *
  have HFTB : Hid (∀ x ∈ lB, x.mod.fits) := hfB
  have HALB : Hid _ := haB
  have HKKB : Hid (KB.exps.length = kB) := hkB
  have HRNB : Hid (IsReg w7.heap.size w7 (.agg #[.int .i64 KB.major, .int .i64 KB.minor, .slice qB kB jB, .slice aB lB.length cB]) KB lB) := hiB
  clear bB hiB hfB haB hkB HRM
  have ba : Below w7.heap.size w7 (w7.alloc (.cells #[.int .i64 KB.major, .int .i64 KB.minor, .slice qB kB jB, .slice aB lB.length cB] 27)) := (Below.refl _ _).alloc (Nat.le_refl _) _
  have ol_g1_gB : w.heap.size < w7.heap.size := CellsAt.lt HC10_g1.out
  have ol_g2_gB : (w.heap.size + 1) < w7.heap.size := CellsAt.lt HC10_g2.out
  have ol_gA_gB : gA < w7.heap.size := CellsAt.lt HC10_gA.out
  have olw_gB : w.heap.size ≤ w7.heap.size := HB10.out.size
  have HB11 : Hid (Below w.heap.size w (w7.alloc (.cells #[.int .i64 KB.major, .int .i64 KB.minor, .slice qB kB jB, .slice aB lB.length cB] 27))) := HB10.out.trans (ba.mono HB10.out.size)
  have HC11_g1 : Hid (CellsAt (w7.alloc (.cells #[.int .i64 KB.major, .int .i64 KB.minor, .slice qB kB jB, .slice aB lB.length cB] 27)) w.heap.size 27 #[.int .i64 K.major, .int .i64 K.minor, .slice qe lk je, .slice a l.length cap]) := HC10_g1.out.below ba HC10_g1.out.lt
  have HC11_g2 : Hid (CellsAt (w7.alloc (.cells #[.int .i64 KB.major, .int .i64 KB.minor, .slice qB kB jB, .slice aB lB.length cB] 27)) (w.heap.size + 1) 31 #[.string M.name, .int .i64 M.major, .int .i64 M.minor, .string M.text, .slice pe le ke, .slice pi li ki, .slice pp lp kp]) := HC10_g2.out.below ba HC10_g2.out.lt
  have HC11_gA : Hid (CellsAt (w7.alloc (.cells #[.int .i64 KB.major, .int .i64 KB.minor, .slice qB kB jB, .slice aB lB.length cB] 27)) gA 27 #[.int .i64 KA.major, .int .i64 KA.minor, .slice qA kA jA, .slice aA lA.length cA]) := HC10_gA.out.below ba HC10_gA.out.lt
  have HR11_r : Hid (IsReg (w7.alloc (.cells #[.int .i64 KB.major, .int .i64 KB.minor, .slice qB kB jB, .slice aB lB.length cB] 27)).heap.size (w7.alloc (.cells #[.int .i64 KB.major, .int .i64 KB.minor, .slice qB kB jB, .slice aB lB.length cB] 27)) (.agg #[.int .i64 K.major, .int .i64 K.minor, .slice qe lk je, .slice a l.length cap]) K l) := (HR10_r.out.below ba).more ba.size
  have HR11_A : Hid (IsReg (w7.alloc (.cells #[.int .i64 KB.major, .int .i64 KB.minor, .slice qB kB jB, .slice aB lB.length cB] 27)).heap.size (w7.alloc (.cells #[.int .i64 KB.major, .int .i64 KB.minor, .slice qB kB jB, .slice aB lB.length cB] 27)) (.agg #[.int .i64 KA.major, .int .i64 KA.minor, .slice qA kA jA, .slice aA lA.length cA]) KA lA) := (HR10_A.out.below ba).more ba.size
  have HR11_B : Hid (IsReg (w7.alloc (.cells #[.int .i64 KB.major, .int .i64 KB.minor, .slice qB kB jB, .slice aB lB.length cB] 27)).heap.size (w7.alloc (.cells #[.int .i64 KB.major, .int .i64 KB.minor, .slice qB kB jB, .slice aB lB.length cB] 27)) (.agg #[.int .i64 KB.major, .int .i64 KB.minor, .slice qB kB jB, .slice aB lB.length cB]) KB lB) := (HRNB.out.below ba).more ba.size
  have HM11_m : Hid (IsMod (w7.alloc (.cells #[.int .i64 KB.major, .int .i64 KB.minor, .slice qB kB jB, .slice aB lB.length cB] 27)).heap.size (w7.alloc (.cells #[.int .i64 KB.major, .int .i64 KB.minor, .slice qB kB jB, .slice aB lB.length cB] 27)) (.agg #[.string M.name, .int .i64 M.major, .int .i64 M.minor, .string M.text, .slice pe le ke, .slice pi li ki, .slice pp lp kp]) M) := (HM10_m.out.below ba).more ba.size
  clear HB10 HC10_g1 HC10_g2 HC10_gA HR10_r HR10_A HRNB HM10_m
  clear ba
  have HC12_gB : Hid (CellsAt (w7.alloc (.cells #[.int .i64 KB.major, .int .i64 KB.minor, .slice qB kB jB, .slice aB lB.length cB] 27)) w7.heap.size 27 #[.int .i64 KB.major, .int .i64 KB.minor, .slice qB kB jB, .slice aB lB.length cB]) := CellsAt.new _ _ _
  go_upto_region 5 with fail
  generalize (w7.alloc (.cells #[.int .i64 KB.major, .int .i64 KB.minor, .slice qB kB jB, .slice aB lB.length cB] 27)) = w8 at *
  generalize w7.heap.size = gB at *
  have rg10 := CellsAt.cell HC11_g1.out 0
  have rg11 := CellsAt.cell HC11_g1.out 1
  have rg12 := CellsAt.cell HC11_g1.out 2
  have rg13 := CellsAt.cell HC11_g1.out 3
  have rg1l := CellsAt.lt HC11_g1.out
  simp at rg10 rg11 rg12 rg13
  have rg20 := CellsAt.cell HC11_g2.out 0
  have rg21 := CellsAt.cell HC11_g2.out 1
  have rg22 := CellsAt.cell HC11_g2.out 2
  have rg23 := CellsAt.cell HC11_g2.out 3
  have rg24 := CellsAt.cell HC11_g2.out 4
  have rg25 := CellsAt.cell HC11_g2.out 5
  have rg26 := CellsAt.cell HC11_g2.out 6
  have rg2l := CellsAt.lt HC11_g2.out
  simp at rg20 rg21 rg22 rg23 rg24 rg25 rg26
  go_wp2_with fail
  clear rg10 rg11 rg12 rg13 rg1l
  clear rg20 rg21 rg22 rg23 rg24 rg25 rg26 rg2l
  refine (HUP.out _ HR11_r.out HM11_m.out).mono ?_
  rintro e w9 ⟨⟨vC, lC, KC, eC, rfl, hfC, hiC, haC⟩, bC⟩
  have HB13 : Hid (Below w.heap.size w w9) := HB11.out.trans (bC.mono HB11.out.size)
  have HC13_g1 : Hid (CellsAt w9 w.heap.size 27 #[.int .i64 K.major, .int .i64 K.minor, .slice qe lk je, .slice a l.length cap]) := HC11_g1.out.below bC HC11_g1.out.lt
  have HC13_g2 : Hid (CellsAt w9 (w.heap.size + 1) 31 #[.string M.name, .int .i64 M.major, .int .i64 M.minor, .string M.text, .slice pe le ke, .slice pi li ki, .slice pp lp kp]) := HC11_g2.out.below bC HC11_g2.out.lt
  have HC13_gA : Hid (CellsAt w9 gA 27 #[.int .i64 KA.major, .int .i64 KA.minor, .slice qA kA jA, .slice aA lA.length cA]) := HC11_gA.out.below bC HC11_gA.out.lt
  have HC13_gB : Hid (CellsAt w9 gB 27 #[.int .i64 KB.major, .int .i64 KB.minor, .slice qB kB jB, .slice aB lB.length cB]) := HC12_gB.out.below bC HC12_gB.out.lt
  have HR13_r : Hid (IsReg w9.heap.size w9 (.agg #[.int .i64 K.major, .int .i64 K.minor, .slice qe lk je, .slice a l.length cap]) K l) := (HR11_r.out.below bC).more bC.size
  have HR13_A : Hid (IsReg w9.heap.size w9 (.agg #[.int .i64 KA.major, .int .i64 KA.minor, .slice qA kA jA, .slice aA lA.length cA]) KA lA) := (HR11_A.out.below bC).more bC.size
  have HR13_B : Hid (IsReg w9.heap.size w9 (.agg #[.int .i64 KB.major, .int .i64 KB.minor, .slice qB kB jB, .slice aB lB.length cB]) KB lB) := (HR11_B.out.below bC).more bC.size
  have HM13_m : Hid (IsMod w9.heap.size w9 (.agg #[.string M.name, .int .i64 M.major, .int .i64 M.minor, .string M.text, .slice pe le ke, .slice pi li ki, .slice pp lp kp]) M) := (HM11_m.out.below bC).more bC.size
  clear HB11 HC11_g1 HC11_g2 HC11_gA HC12_gB HR11_r HR11_A HR11_B HM11_m
  obtain ⟨qC, jC, aC, cC, rfl⟩ := hiC.shape0
  generalize hkC : KC.exps.length = kC at *
  have HFTC : Hid (∀ x ∈ lC, x.mod.fits) := hfC
  have HALC : Hid _ := haC
  have HKKC : Hid (KC.exps.length = kC) := hkC
  have HRNC : Hid (IsReg w9.heap.size w9 (.agg #[.int .i64 KC.major, .int .i64 KC.minor, .slice qC kC jC, .slice aC lC.length cC]) KC lC) := hiC
  clear bC hiC hfC haC hkC HUP
  have ba : Below w9.heap.size w9 (w9.alloc (.cells #[.int .i64 KC.major, .int .i64 KC.minor, .slice qC kC jC, .slice aC lC.length cC] 27)) := (Below.refl _ _).alloc (Nat.le_refl _) _
  have ol_g1_gC : w.heap.size < w9.heap.size := CellsAt.lt HC13_g1.out
  have ol_g2_gC : (w.heap.size + 1) < w9.heap.size := CellsAt.lt HC13_g2.out
  have ol_gA_gC : gA < w9.heap.size := CellsAt.lt HC13_gA.out
  have ol_gB_gC : gB < w9.heap.size := CellsAt.lt HC13_gB.out
  have olw_gC : w.heap.size ≤ w9.heap.size := HB13.out.size
  have HB14 : Hid (Below w.heap.size w (w9.alloc (.cells #[.int .i64 KC.major, .int .i64 KC.minor, .slice qC kC jC, .slice aC lC.length cC] 27))) := HB13.out.trans (ba.mono HB13.out.size)
  have HC14_g1 : Hid (CellsAt (w9.alloc (.cells #[.int .i64 KC.major, .int .i64 KC.minor, .slice qC kC jC, .slice aC lC.length cC] 27)) w.heap.size 27 #[.int .i64 K.major, .int .i64 K.minor, .slice qe lk je, .slice a l.length cap]) := HC13_g1.out.below ba HC13_g1.out.lt
  have HC14_g2 : Hid (CellsAt (w9.alloc (.cells #[.int .i64 KC.major, .int .i64 KC.minor, .slice qC kC jC, .slice aC lC.length cC] 27)) (w.heap.size + 1) 31 #[.string M.name, .int .i64 M.major, .int .i64 M.minor, .string M.text, .slice pe le ke, .slice pi li ki, .slice pp lp kp]) := HC13_g2.out.below ba HC13_g2.out.lt
  have HC14_gA : Hid (CellsAt (w9.alloc (.cells #[.int .i64 KC.major, .int .i64 KC.minor, .slice qC kC jC, .slice aC lC.length cC] 27)) gA 27 #[.int .i64 KA.major, .int .i64 KA.minor, .slice qA kA jA, .slice aA lA.length cA]) := HC13_gA.out.below ba HC13_gA.out.lt
  have HC14_gB : Hid (CellsAt (w9.alloc (.cells #[.int .i64 KC.major, .int .i64 KC.minor, .slice qC kC jC, .slice aC lC.length cC] 27)) gB 27 #[.int .i64 KB.major, .int .i64 KB.minor, .slice qB kB jB, .slice aB lB.length cB]) := HC13_gB.out.below ba HC13_gB.out.lt
  have HR14_r : Hid (IsReg (w9.alloc (.cells #[.int .i64 KC.major, .int .i64 KC.minor, .slice qC kC jC, .slice aC lC.length cC] 27)).heap.size (w9.alloc (.cells #[.int .i64 KC.major, .int .i64 KC.minor, .slice qC kC jC, .slice aC lC.length cC] 27)) (.agg #[.int .i64 K.major, .int .i64 K.minor, .slice qe lk je, .slice a l.length cap]) K l) := (HR13_r.out.below ba).more ba.size
  have HR14_A : Hid (IsReg (w9.alloc (.cells #[.int .i64 KC.major, .int .i64 KC.minor, .slice qC kC jC, .slice aC lC.length cC] 27)).heap.size (w9.alloc (.cells #[.int .i64 KC.major, .int .i64 KC.minor, .slice qC kC jC, .slice aC lC.length cC] 27)) (.agg #[.int .i64 KA.major, .int .i64 KA.minor, .slice qA kA jA, .slice aA lA.length cA]) KA lA) := (HR13_A.out.below ba).more ba.size
  have HR14_B : Hid (IsReg (w9.alloc (.cells #[.int .i64 KC.major, .int .i64 KC.minor, .slice qC kC jC, .slice aC lC.length cC] 27)).heap.size (w9.alloc (.cells #[.int .i64 KC.major, .int .i64 KC.minor, .slice qC kC jC, .slice aC lC.length cC] 27)) (.agg #[.int .i64 KB.major, .int .i64 KB.minor, .slice qB kB jB, .slice aB lB.length cB]) KB lB) := (HR13_B.out.below ba).more ba.size
  have HR14_C : Hid (IsReg (w9.alloc (.cells #[.int .i64 KC.major, .int .i64 KC.minor, .slice qC kC jC, .slice aC lC.length cC] 27)).heap.size (w9.alloc (.cells #[.int .i64 KC.major, .int .i64 KC.minor, .slice qC kC jC, .slice aC lC.length cC] 27)) (.agg #[.int .i64 KC.major, .int .i64 KC.minor, .slice qC kC jC, .slice aC lC.length cC]) KC lC) := (HRNC.out.below ba).more ba.size
  have HM14_m : Hid (IsMod (w9.alloc (.cells #[.int .i64 KC.major, .int .i64 KC.minor, .slice qC kC jC, .slice aC lC.length cC] 27)).heap.size (w9.alloc (.cells #[.int .i64 KC.major, .int .i64 KC.minor, .slice qC kC jC, .slice aC lC.length cC] 27)) (.agg #[.string M.name, .int .i64 M.major, .int .i64 M.minor, .string M.text, .slice pe le ke, .slice pi li ki, .slice pp lp kp]) M) := (HM13_m.out.below ba).more ba.size
  clear HB13 HC13_g1 HC13_g2 HC13_gA HC13_gB HR13_r HR13_A HR13_B HRNC HM13_m
  clear ba
  have HC15_gC : Hid (CellsAt (w9.alloc (.cells #[.int .i64 KC.major, .int .i64 KC.minor, .slice qC kC jC, .slice aC lC.length cC] 27)) w9.heap.size 27 #[.int .i64 KC.major, .int .i64 KC.minor, .slice qC kC jC, .slice aC lC.length cC]) := CellsAt.new _ _ _
  go_upto_region 6 with fail
  generalize (w9.alloc (.cells #[.int .i64 KC.major, .int .i64 KC.minor, .slice qC kC jC, .slice aC lC.length cC] 27)) = w10 at *
  generalize w9.heap.size = gC at *
  rcases HALA.out with hal | hal
  · try dsimp only at hal
    have hal1 : (eA == 0) = false := by simpa using hal
    have hal2 : (eA != 0) = true := by simpa using hal
    have HAL2 : Hid (eA ≠ 0) := hal
    clear hal HALA HFTA HKKA
    go_upto_region 8 with fail
    clear hal1 hal2 HAL2
    rcases HALB.out with hal | hal
    · try dsimp only at hal
      have hal1 : (eB == 0) = false := by simpa using hal
      have hal2 : (eB != 0) = true := by simpa using hal
      have HAL2 : Hid (eB ≠ 0) := hal
      clear hal HALB HFTB HKKB
      go_upto_region 10 with fail
      clear hal1 hal2 HAL2
      rcases HALC.out with hal | hal
      · try dsimp only at hal
        have hal1 : (eC == 0) = false := by simpa using hal
        have hal2 : (eC != 0) = true := by simpa using hal
        have HAL2 : Hid (eC ≠ 0) := hal
        clear hal HALC HFTC HKKC
        go_wp2
        go_ret
        exact ⟨rfl, HB14.out⟩
      · obtain ⟨hpe, hpk, hc0, hc1, hln, hs1, hs2⟩ := hal
        replace hpk := hpk.symm
        try dsimp only at hpe hpk hc1 hln hs1 hs2
        subst hpe
        subst hpk
        rw [List.length_map, List.length_map] at hln
        have hl8 := HLN.out hc0
        have HO1 : Hid (∀ x ∈ l, x.mod.name ≠ M.name → ∃ (j : Nat) (y : PV), lC[j]? = some y ∧ ixFrom (fun z : PV => z.mod.name == x.mod.name) 0 lC = (j : Int) ∧ y.plc = x.plc) := others_found hc1 hs1
        have HO2 : Hid (∀ x ∈ lC, x.mod.name ≠ M.name → ∃ (j : Nat) (y : PV), l[j]? = some y ∧ ixFrom (fun z : PV => z.mod.name == x.mod.name) 0 l = (j : Int) ∧ y.plc = x.plc) := others_found hc0 hs2
        have HC1 : Hid (chkRg K (lC.map PV.plc) = 0) := hc1
        have hwa : (lC.length : Int) = (l.length : Int) := by omega
        clear hc0 hc1 hs1 hs2 hl8 hln
        have rgC0 := CellsAt.cell HC15_gC.out 0
        have rgC1 := CellsAt.cell HC15_gC.out 1
        have rgC2 := CellsAt.cell HC15_gC.out 2
        have rgC3 := CellsAt.cell HC15_gC.out 3
        have rgCl := CellsAt.lt HC15_gC.out
        simp at rgC0 rgC1 rgC2 rgC3
        go_wp2_with fail
        clear rgC0 rgC1 rgC2 rgC3 rgCl
        refine (HCH.out lC _ _ HFTC.out HC1.out HR14_C.out).mono ?_
        rintro e w11 ⟨rfl, bq⟩
        have HB16 : Hid (Below w.heap.size w w11) := HB14.out.trans (bq.mono HB14.out.size)
        have HC16_g1 : Hid (CellsAt w11 w.heap.size 27 #[.int .i64 K.major, .int .i64 K.minor, .slice qe lk je, .slice a l.length cap]) := HC14_g1.out.below bq HC14_g1.out.lt
        have HC16_g2 : Hid (CellsAt w11 (w.heap.size + 1) 31 #[.string M.name, .int .i64 M.major, .int .i64 M.minor, .string M.text, .slice pe le ke, .slice pi li ki, .slice pp lp kp]) := HC14_g2.out.below bq HC14_g2.out.lt
        have HC16_gA : Hid (CellsAt w11 gA 27 #[.int .i64 KA.major, .int .i64 KA.minor, .slice qA kA jA, .slice aA lA.length cA]) := HC14_gA.out.below bq HC14_gA.out.lt
        have HC16_gB : Hid (CellsAt w11 gB 27 #[.int .i64 KB.major, .int .i64 KB.minor, .slice qB kB jB, .slice aB lB.length cB]) := HC14_gB.out.below bq HC14_gB.out.lt
        have HC16_gC : Hid (CellsAt w11 gC 27 #[.int .i64 K.major, .int .i64 K.minor, .slice qC kC jC, .slice aC lC.length cC]) := HC15_gC.out.below bq HC15_gC.out.lt
        have HR16_r : Hid (IsReg w11.heap.size w11 (.agg #[.int .i64 K.major, .int .i64 K.minor, .slice qe lk je, .slice a l.length cap]) K l) := (HR14_r.out.below bq).more bq.size
        have HR16_A : Hid (IsReg w11.heap.size w11 (.agg #[.int .i64 KA.major, .int .i64 KA.minor, .slice qA kA jA, .slice aA lA.length cA]) KA lA) := (HR14_A.out.below bq).more bq.size
        have HR16_B : Hid (IsReg w11.heap.size w11 (.agg #[.int .i64 KB.major, .int .i64 KB.minor, .slice qB kB jB, .slice aB lB.length cB]) KB lB) := (HR14_B.out.below bq).more bq.size
        have HR16_C : Hid (IsReg w11.heap.size w11 (.agg #[.int .i64 K.major, .int .i64 K.minor, .slice qC kC jC, .slice aC lC.length cC]) K lC) := (HR14_C.out.below bq).more bq.size
        have HM16_m : Hid (IsMod w11.heap.size w11 (.agg #[.string M.name, .int .i64 M.major, .int .i64 M.minor, .string M.text, .slice pe le ke, .slice pi li ki, .slice pp lp kp]) M) := (HM14_m.out.below bq).more bq.size
        clear HB14 HC14_g1 HC14_g2 HC14_gA HC14_gB HC15_gC HR14_r HR14_A HR14_B HR14_C HM14_m
        clear bq HC1
        have rg10 := CellsAt.cell HC16_g1.out 0
        have rg11 := CellsAt.cell HC16_g1.out 1
        have rg12 := CellsAt.cell HC16_g1.out 2
        have rg13 := CellsAt.cell HC16_g1.out 3
        have rg1l := CellsAt.lt HC16_g1.out
        simp at rg10 rg11 rg12 rg13
        have rgC0 := CellsAt.cell HC16_gC.out 0
        have rgC1 := CellsAt.cell HC16_gC.out 1
        have rgC2 := CellsAt.cell HC16_gC.out 2
        have rgC3 := CellsAt.cell HC16_gC.out 3
        have rgCl := CellsAt.lt HC16_gC.out
        simp at rgC0 rgC1 rgC2 rgC3
        have rg20 := CellsAt.cell HC16_g2.out 0
        have rg21 := CellsAt.cell HC16_g2.out 1
        have rg22 := CellsAt.cell HC16_g2.out 2
        have rg23 := CellsAt.cell HC16_g2.out 3
        have rg24 := CellsAt.cell HC16_g2.out 4
        have rg25 := CellsAt.cell HC16_g2.out 5
        have rg26 := CellsAt.cell HC16_g2.out 6
        have rg2l := CellsAt.lt HC16_g2.out
        simp at rg20 rg21 rg22 rg23 rg24 rg25 rg26
        go_wp2_with fail
        clear rg10 rg11 rg12 rg13 rg1l
        clear rgC0 rgC1 rgC2 rgC3 rgCl
        clear rg20 rg21 rg22 rg23 rg24 rg25 rg26 rg2l
        refine (others_any K K l lC _ _ M.name _ HR16_r.out HR16_C.out HO1.out).mono ?_
        rintro e w12 ⟨rfl, bq⟩
        have HB17 : Hid (Below w.heap.size w w12) := HB16.out.trans (bq.mono HB16.out.size)
        have HC17_g1 : Hid (CellsAt w12 w.heap.size 27 #[.int .i64 K.major, .int .i64 K.minor, .slice qe lk je, .slice a l.length cap]) := HC16_g1.out.below bq HC16_g1.out.lt
        have HC17_g2 : Hid (CellsAt w12 (w.heap.size + 1) 31 #[.string M.name, .int .i64 M.major, .int .i64 M.minor, .string M.text, .slice pe le ke, .slice pi li ki, .slice pp lp kp]) := HC16_g2.out.below bq HC16_g2.out.lt
        have HC17_gA : Hid (CellsAt w12 gA 27 #[.int .i64 KA.major, .int .i64 KA.minor, .slice qA kA jA, .slice aA lA.length cA]) := HC16_gA.out.below bq HC16_gA.out.lt
        have HC17_gB : Hid (CellsAt w12 gB 27 #[.int .i64 KB.major, .int .i64 KB.minor, .slice qB kB jB, .slice aB lB.length cB]) := HC16_gB.out.below bq HC16_gB.out.lt
        have HC17_gC : Hid (CellsAt w12 gC 27 #[.int .i64 K.major, .int .i64 K.minor, .slice qC kC jC, .slice aC lC.length cC]) := HC16_gC.out.below bq HC16_gC.out.lt
        have HR17_r : Hid (IsReg w12.heap.size w12 (.agg #[.int .i64 K.major, .int .i64 K.minor, .slice qe lk je, .slice a l.length cap]) K l) := (HR16_r.out.below bq).more bq.size
        have HR17_A : Hid (IsReg w12.heap.size w12 (.agg #[.int .i64 KA.major, .int .i64 KA.minor, .slice qA kA jA, .slice aA lA.length cA]) KA lA) := (HR16_A.out.below bq).more bq.size
        have HR17_B : Hid (IsReg w12.heap.size w12 (.agg #[.int .i64 KB.major, .int .i64 KB.minor, .slice qB kB jB, .slice aB lB.length cB]) KB lB) := (HR16_B.out.below bq).more bq.size
        have HR17_C : Hid (IsReg w12.heap.size w12 (.agg #[.int .i64 K.major, .int .i64 K.minor, .slice qC kC jC, .slice aC lC.length cC]) K lC) := (HR16_C.out.below bq).more bq.size
        have HM17_m : Hid (IsMod w12.heap.size w12 (.agg #[.string M.name, .int .i64 M.major, .int .i64 M.minor, .string M.text, .slice pe le ke, .slice pi li ki, .slice pp lp kp]) M) := (HM16_m.out.below bq).more bq.size
        clear HB16 HC16_g1 HC16_g2 HC16_gA HC16_gB HC16_gC HR16_r HR16_A HR16_B HR16_C HM16_m
        clear bq HO1
        have rg10 := CellsAt.cell HC17_g1.out 0
        have rg11 := CellsAt.cell HC17_g1.out 1
        have rg12 := CellsAt.cell HC17_g1.out 2
        have rg13 := CellsAt.cell HC17_g1.out 3
        have rg1l := CellsAt.lt HC17_g1.out
        simp at rg10 rg11 rg12 rg13
        have rgC0 := CellsAt.cell HC17_gC.out 0
        have rgC1 := CellsAt.cell HC17_gC.out 1
        have rgC2 := CellsAt.cell HC17_gC.out 2
        have rgC3 := CellsAt.cell HC17_gC.out 3
        have rgCl := CellsAt.lt HC17_gC.out
        simp at rgC0 rgC1 rgC2 rgC3
        have rg20 := CellsAt.cell HC17_g2.out 0
        have rg21 := CellsAt.cell HC17_g2.out 1
        have rg22 := CellsAt.cell HC17_g2.out 2
        have rg23 := CellsAt.cell HC17_g2.out 3
        have rg24 := CellsAt.cell HC17_g2.out 4
        have rg25 := CellsAt.cell HC17_g2.out 5
        have rg26 := CellsAt.cell HC17_g2.out 6
        have rg2l := CellsAt.lt HC17_g2.out
        simp at rg20 rg21 rg22 rg23 rg24 rg25 rg26
        go_wp2_with fail
        clear rg10 rg11 rg12 rg13 rg1l
        clear rgC0 rgC1 rgC2 rgC3 rgCl
        clear rg20 rg21 rg22 rg23 rg24 rg25 rg26 rg2l
        refine (others_any K K lC l _ _ M.name _ HR17_C.out HR17_r.out HO2.out).mono ?_
        rintro e w13 ⟨rfl, bq⟩
        have HB18 : Hid (Below w.heap.size w w13) := HB17.out.trans (bq.mono HB17.out.size)
        have HC18_g1 : Hid (CellsAt w13 w.heap.size 27 #[.int .i64 K.major, .int .i64 K.minor, .slice qe lk je, .slice a l.length cap]) := HC17_g1.out.below bq HC17_g1.out.lt
        have HC18_g2 : Hid (CellsAt w13 (w.heap.size + 1) 31 #[.string M.name, .int .i64 M.major, .int .i64 M.minor, .string M.text, .slice pe le ke, .slice pi li ki, .slice pp lp kp]) := HC17_g2.out.below bq HC17_g2.out.lt
        have HC18_gA : Hid (CellsAt w13 gA 27 #[.int .i64 KA.major, .int .i64 KA.minor, .slice qA kA jA, .slice aA lA.length cA]) := HC17_gA.out.below bq HC17_gA.out.lt
        have HC18_gB : Hid (CellsAt w13 gB 27 #[.int .i64 KB.major, .int .i64 KB.minor, .slice qB kB jB, .slice aB lB.length cB]) := HC17_gB.out.below bq HC17_gB.out.lt
        have HC18_gC : Hid (CellsAt w13 gC 27 #[.int .i64 K.major, .int .i64 K.minor, .slice qC kC jC, .slice aC lC.length cC]) := HC17_gC.out.below bq HC17_gC.out.lt
        have HR18_r : Hid (IsReg w13.heap.size w13 (.agg #[.int .i64 K.major, .int .i64 K.minor, .slice qe lk je, .slice a l.length cap]) K l) := (HR17_r.out.below bq).more bq.size
        have HR18_A : Hid (IsReg w13.heap.size w13 (.agg #[.int .i64 KA.major, .int .i64 KA.minor, .slice qA kA jA, .slice aA lA.length cA]) KA lA) := (HR17_A.out.below bq).more bq.size
        have HR18_B : Hid (IsReg w13.heap.size w13 (.agg #[.int .i64 KB.major, .int .i64 KB.minor, .slice qB kB jB, .slice aB lB.length cB]) KB lB) := (HR17_B.out.below bq).more bq.size
        have HR18_C : Hid (IsReg w13.heap.size w13 (.agg #[.int .i64 K.major, .int .i64 K.minor, .slice qC kC jC, .slice aC lC.length cC]) K lC) := (HR17_C.out.below bq).more bq.size
        have HM18_m : Hid (IsMod w13.heap.size w13 (.agg #[.string M.name, .int .i64 M.major, .int .i64 M.minor, .string M.text, .slice pe le ke, .slice pi li ki, .slice pp lp kp]) M) := (HM17_m.out.below bq).more bq.size
        clear HB17 HC17_g1 HC17_g2 HC17_gA HC17_gB HC17_gC HR17_r HR17_A HR17_B HR17_C HM17_m
        clear bq HO2 hwa
        clear HALC HFTC HKKC
        go_wp2
        go_ret
        exact ⟨rfl, HB18.out⟩
    · obtain ⟨hpe, hpk, hc0, hc1, hln, hs1, hs2⟩ := hal
      replace hpk := hpk.symm
      try dsimp only at hpe hpk hc1 hln hs1 hs2
      subst hpe
      subst hpk
      rw [List.length_map, List.length_map] at hln
      have hl8 := HLN.out hc0
      have HO1 : Hid (∀ x ∈ l, x.mod.name ≠ name → ∃ (j : Nat) (y : PV), lB[j]? = some y ∧ ixFrom (fun z : PV => z.mod.name == x.mod.name) 0 lB = (j : Int) ∧ y.plc = x.plc) := others_found hc1 hs1
      have HO2 : Hid (∀ x ∈ lB, x.mod.name ≠ name → ∃ (j : Nat) (y : PV), l[j]? = some y ∧ ixFrom (fun z : PV => z.mod.name == x.mod.name) 0 l = (j : Int) ∧ y.plc = x.plc) := others_found hc0 hs2
      have HC1 : Hid (chkRg K (lB.map PV.plc) = 0) := hc1
      have hwa : IntKind.i64.wrap ((l.length : Int) - 1) = (lB.length : Int) := by rw [IntKind.wrap_i64]; omega
      clear hc0 hc1 hs1 hs2 hl8 hln
      have rgB0 := CellsAt.cell HC14_gB.out 0
      have rgB1 := CellsAt.cell HC14_gB.out 1
      have rgB2 := CellsAt.cell HC14_gB.out 2
      have rgB3 := CellsAt.cell HC14_gB.out 3
      have rgBl := CellsAt.lt HC14_gB.out
      simp at rgB0 rgB1 rgB2 rgB3
      go_wp2_with fail
      clear rgB0 rgB1 rgB2 rgB3 rgBl
      refine (HCH.out lB _ _ HFTB.out HC1.out HR14_B.out).mono ?_
      rintro e w14 ⟨rfl, bq⟩
      have HB16 : Hid (Below w.heap.size w w14) := HB14.out.trans (bq.mono HB14.out.size)
      have HC16_g1 : Hid (CellsAt w14 w.heap.size 27 #[.int .i64 K.major, .int .i64 K.minor, .slice qe lk je, .slice a l.length cap]) := HC14_g1.out.below bq HC14_g1.out.lt
      have HC16_g2 : Hid (CellsAt w14 (w.heap.size + 1) 31 #[.string M.name, .int .i64 M.major, .int .i64 M.minor, .string M.text, .slice pe le ke, .slice pi li ki, .slice pp lp kp]) := HC14_g2.out.below bq HC14_g2.out.lt
      have HC16_gA : Hid (CellsAt w14 gA 27 #[.int .i64 KA.major, .int .i64 KA.minor, .slice qA kA jA, .slice aA lA.length cA]) := HC14_gA.out.below bq HC14_gA.out.lt
      have HC16_gB : Hid (CellsAt w14 gB 27 #[.int .i64 K.major, .int .i64 K.minor, .slice qB kB jB, .slice aB lB.length cB]) := HC14_gB.out.below bq HC14_gB.out.lt
      have HC16_gC : Hid (CellsAt w14 gC 27 #[.int .i64 KC.major, .int .i64 KC.minor, .slice qC kC jC, .slice aC lC.length cC]) := HC15_gC.out.below bq HC15_gC.out.lt
      have HR16_r : Hid (IsReg w14.heap.size w14 (.agg #[.int .i64 K.major, .int .i64 K.minor, .slice qe lk je, .slice a l.length cap]) K l) := (HR14_r.out.below bq).more bq.size
      have HR16_A : Hid (IsReg w14.heap.size w14 (.agg #[.int .i64 KA.major, .int .i64 KA.minor, .slice qA kA jA, .slice aA lA.length cA]) KA lA) := (HR14_A.out.below bq).more bq.size
      have HR16_B : Hid (IsReg w14.heap.size w14 (.agg #[.int .i64 K.major, .int .i64 K.minor, .slice qB kB jB, .slice aB lB.length cB]) K lB) := (HR14_B.out.below bq).more bq.size
      have HR16_C : Hid (IsReg w14.heap.size w14 (.agg #[.int .i64 KC.major, .int .i64 KC.minor, .slice qC kC jC, .slice aC lC.length cC]) KC lC) := (HR14_C.out.below bq).more bq.size
      have HM16_m : Hid (IsMod w14.heap.size w14 (.agg #[.string M.name, .int .i64 M.major, .int .i64 M.minor, .string M.text, .slice pe le ke, .slice pi li ki, .slice pp lp kp]) M) := (HM14_m.out.below bq).more bq.size
      clear HB14 HC14_g1 HC14_g2 HC14_gA HC14_gB HC15_gC HR14_r HR14_A HR14_B HR14_C HM14_m
      clear bq HC1
      have rg10 := CellsAt.cell HC16_g1.out 0
      have rg11 := CellsAt.cell HC16_g1.out 1
      have rg12 := CellsAt.cell HC16_g1.out 2
      have rg13 := CellsAt.cell HC16_g1.out 3
      have rg1l := CellsAt.lt HC16_g1.out
      simp at rg10 rg11 rg12 rg13
      have rgB0 := CellsAt.cell HC16_gB.out 0
      have rgB1 := CellsAt.cell HC16_gB.out 1
      have rgB2 := CellsAt.cell HC16_gB.out 2
      have rgB3 := CellsAt.cell HC16_gB.out 3
      have rgBl := CellsAt.lt HC16_gB.out
      simp at rgB0 rgB1 rgB2 rgB3
      have rg20 := CellsAt.cell HC16_g2.out 0
      have rg21 := CellsAt.cell HC16_g2.out 1
      have rg22 := CellsAt.cell HC16_g2.out 2
      have rg23 := CellsAt.cell HC16_g2.out 3
      have rg24 := CellsAt.cell HC16_g2.out 4
      have rg25 := CellsAt.cell HC16_g2.out 5
      have rg26 := CellsAt.cell HC16_g2.out 6
      have rg2l := CellsAt.lt HC16_g2.out
      simp at rg20 rg21 rg22 rg23 rg24 rg25 rg26
      go_wp2_with fail
      clear rg10 rg11 rg12 rg13 rg1l
      clear rgB0 rgB1 rgB2 rgB3 rgBl
      clear rg20 rg21 rg22 rg23 rg24 rg25 rg26 rg2l
      refine (others_any K K l lB _ _ name _ HR16_r.out HR16_B.out HO1.out).mono ?_
      rintro e w15 ⟨rfl, bq⟩
      have HB17 : Hid (Below w.heap.size w w15) := HB16.out.trans (bq.mono HB16.out.size)
      have HC17_g1 : Hid (CellsAt w15 w.heap.size 27 #[.int .i64 K.major, .int .i64 K.minor, .slice qe lk je, .slice a l.length cap]) := HC16_g1.out.below bq HC16_g1.out.lt
      have HC17_g2 : Hid (CellsAt w15 (w.heap.size + 1) 31 #[.string M.name, .int .i64 M.major, .int .i64 M.minor, .string M.text, .slice pe le ke, .slice pi li ki, .slice pp lp kp]) := HC16_g2.out.below bq HC16_g2.out.lt
      have HC17_gA : Hid (CellsAt w15 gA 27 #[.int .i64 KA.major, .int .i64 KA.minor, .slice qA kA jA, .slice aA lA.length cA]) := HC16_gA.out.below bq HC16_gA.out.lt
      have HC17_gB : Hid (CellsAt w15 gB 27 #[.int .i64 K.major, .int .i64 K.minor, .slice qB kB jB, .slice aB lB.length cB]) := HC16_gB.out.below bq HC16_gB.out.lt
      have HC17_gC : Hid (CellsAt w15 gC 27 #[.int .i64 KC.major, .int .i64 KC.minor, .slice qC kC jC, .slice aC lC.length cC]) := HC16_gC.out.below bq HC16_gC.out.lt
      have HR17_r : Hid (IsReg w15.heap.size w15 (.agg #[.int .i64 K.major, .int .i64 K.minor, .slice qe lk je, .slice a l.length cap]) K l) := (HR16_r.out.below bq).more bq.size
      have HR17_A : Hid (IsReg w15.heap.size w15 (.agg #[.int .i64 KA.major, .int .i64 KA.minor, .slice qA kA jA, .slice aA lA.length cA]) KA lA) := (HR16_A.out.below bq).more bq.size
      have HR17_B : Hid (IsReg w15.heap.size w15 (.agg #[.int .i64 K.major, .int .i64 K.minor, .slice qB kB jB, .slice aB lB.length cB]) K lB) := (HR16_B.out.below bq).more bq.size
      have HR17_C : Hid (IsReg w15.heap.size w15 (.agg #[.int .i64 KC.major, .int .i64 KC.minor, .slice qC kC jC, .slice aC lC.length cC]) KC lC) := (HR16_C.out.below bq).more bq.size
      have HM17_m : Hid (IsMod w15.heap.size w15 (.agg #[.string M.name, .int .i64 M.major, .int .i64 M.minor, .string M.text, .slice pe le ke, .slice pi li ki, .slice pp lp kp]) M) := (HM16_m.out.below bq).more bq.size
      clear HB16 HC16_g1 HC16_g2 HC16_gA HC16_gB HC16_gC HR16_r HR16_A HR16_B HR16_C HM16_m
      clear bq HO1
      have rg10 := CellsAt.cell HC17_g1.out 0
      have rg11 := CellsAt.cell HC17_g1.out 1
      have rg12 := CellsAt.cell HC17_g1.out 2
      have rg13 := CellsAt.cell HC17_g1.out 3
      have rg1l := CellsAt.lt HC17_g1.out
      simp at rg10 rg11 rg12 rg13
      have rgB0 := CellsAt.cell HC17_gB.out 0
      have rgB1 := CellsAt.cell HC17_gB.out 1
      have rgB2 := CellsAt.cell HC17_gB.out 2
      have rgB3 := CellsAt.cell HC17_gB.out 3
      have rgBl := CellsAt.lt HC17_gB.out
      simp at rgB0 rgB1 rgB2 rgB3
      have rg20 := CellsAt.cell HC17_g2.out 0
      have rg21 := CellsAt.cell HC17_g2.out 1
      have rg22 := CellsAt.cell HC17_g2.out 2
      have rg23 := CellsAt.cell HC17_g2.out 3
      have rg24 := CellsAt.cell HC17_g2.out 4
      have rg25 := CellsAt.cell HC17_g2.out 5
      have rg26 := CellsAt.cell HC17_g2.out 6
      have rg2l := CellsAt.lt HC17_g2.out
      simp at rg20 rg21 rg22 rg23 rg24 rg25 rg26
      go_wp2_with fail
      clear rg10 rg11 rg12 rg13 rg1l
      clear rgB0 rgB1 rgB2 rgB3 rgBl
      clear rg20 rg21 rg22 rg23 rg24 rg25 rg26 rg2l
      refine (others_any K K lB l _ _ name _ HR17_B.out HR17_r.out HO2.out).mono ?_
      rintro e w16 ⟨rfl, bq⟩
      have HB18 : Hid (Below w.heap.size w w16) := HB17.out.trans (bq.mono HB17.out.size)
      have HC18_g1 : Hid (CellsAt w16 w.heap.size 27 #[.int .i64 K.major, .int .i64 K.minor, .slice qe lk je, .slice a l.length cap]) := HC17_g1.out.below bq HC17_g1.out.lt
      have HC18_g2 : Hid (CellsAt w16 (w.heap.size + 1) 31 #[.string M.name, .int .i64 M.major, .int .i64 M.minor, .string M.text, .slice pe le ke, .slice pi li ki, .slice pp lp kp]) := HC17_g2.out.below bq HC17_g2.out.lt
      have HC18_gA : Hid (CellsAt w16 gA 27 #[.int .i64 KA.major, .int .i64 KA.minor, .slice qA kA jA, .slice aA lA.length cA]) := HC17_gA.out.below bq HC17_gA.out.lt
      have HC18_gB : Hid (CellsAt w16 gB 27 #[.int .i64 K.major, .int .i64 K.minor, .slice qB kB jB, .slice aB lB.length cB]) := HC17_gB.out.below bq HC17_gB.out.lt
      have HC18_gC : Hid (CellsAt w16 gC 27 #[.int .i64 KC.major, .int .i64 KC.minor, .slice qC kC jC, .slice aC lC.length cC]) := HC17_gC.out.below bq HC17_gC.out.lt
      have HR18_r : Hid (IsReg w16.heap.size w16 (.agg #[.int .i64 K.major, .int .i64 K.minor, .slice qe lk je, .slice a l.length cap]) K l) := (HR17_r.out.below bq).more bq.size
      have HR18_A : Hid (IsReg w16.heap.size w16 (.agg #[.int .i64 KA.major, .int .i64 KA.minor, .slice qA kA jA, .slice aA lA.length cA]) KA lA) := (HR17_A.out.below bq).more bq.size
      have HR18_B : Hid (IsReg w16.heap.size w16 (.agg #[.int .i64 K.major, .int .i64 K.minor, .slice qB kB jB, .slice aB lB.length cB]) K lB) := (HR17_B.out.below bq).more bq.size
      have HR18_C : Hid (IsReg w16.heap.size w16 (.agg #[.int .i64 KC.major, .int .i64 KC.minor, .slice qC kC jC, .slice aC lC.length cC]) KC lC) := (HR17_C.out.below bq).more bq.size
      have HM18_m : Hid (IsMod w16.heap.size w16 (.agg #[.string M.name, .int .i64 M.major, .int .i64 M.minor, .string M.text, .slice pe le ke, .slice pi li ki, .slice pp lp kp]) M) := (HM17_m.out.below bq).more bq.size
      clear HB17 HC17_g1 HC17_g2 HC17_gA HC17_gB HC17_gC HR17_r HR17_A HR17_B HR17_C HM17_m
      clear bq HO2 hwa
      clear HALB HFTB HKKB
      go_upto_region 10 with fail
      rcases HALC.out with hal | hal
      · try dsimp only at hal
        have hal1 : (eC == 0) = false := by simpa using hal
        have hal2 : (eC != 0) = true := by simpa using hal
        have HAL2 : Hid (eC ≠ 0) := hal
        clear hal HALC HFTC HKKC
        go_wp2
        go_ret
        exact ⟨rfl, HB18.out⟩
      · obtain ⟨hpe, hpk, hc0, hc1, hln, hs1, hs2⟩ := hal
        replace hpk := hpk.symm
        try dsimp only at hpe hpk hc1 hln hs1 hs2
        subst hpe
        subst hpk
        rw [List.length_map, List.length_map] at hln
        have hl8 := HLN.out hc0
        have HO1 : Hid (∀ x ∈ l, x.mod.name ≠ M.name → ∃ (j : Nat) (y : PV), lC[j]? = some y ∧ ixFrom (fun z : PV => z.mod.name == x.mod.name) 0 lC = (j : Int) ∧ y.plc = x.plc) := others_found hc1 hs1
        have HO2 : Hid (∀ x ∈ lC, x.mod.name ≠ M.name → ∃ (j : Nat) (y : PV), l[j]? = some y ∧ ixFrom (fun z : PV => z.mod.name == x.mod.name) 0 l = (j : Int) ∧ y.plc = x.plc) := others_found hc0 hs2
        have HC1 : Hid (chkRg K (lC.map PV.plc) = 0) := hc1
        have hwa : (lC.length : Int) = (l.length : Int) := by omega
        clear hc0 hc1 hs1 hs2 hl8 hln
        have rgC0 := CellsAt.cell HC18_gC.out 0
        have rgC1 := CellsAt.cell HC18_gC.out 1
        have rgC2 := CellsAt.cell HC18_gC.out 2
        have rgC3 := CellsAt.cell HC18_gC.out 3
        have rgCl := CellsAt.lt HC18_gC.out
        simp at rgC0 rgC1 rgC2 rgC3
        go_wp2_with fail
        clear rgC0 rgC1 rgC2 rgC3 rgCl
        refine (HCH.out lC _ _ HFTC.out HC1.out HR18_C.out).mono ?_
        rintro e w17 ⟨rfl, bq⟩
        have HB19 : Hid (Below w.heap.size w w17) := HB18.out.trans (bq.mono HB18.out.size)
        have HC19_g1 : Hid (CellsAt w17 w.heap.size 27 #[.int .i64 K.major, .int .i64 K.minor, .slice qe lk je, .slice a l.length cap]) := HC18_g1.out.below bq HC18_g1.out.lt
        have HC19_g2 : Hid (CellsAt w17 (w.heap.size + 1) 31 #[.string M.name, .int .i64 M.major, .int .i64 M.minor, .string M.text, .slice pe le ke, .slice pi li ki, .slice pp lp kp]) := HC18_g2.out.below bq HC18_g2.out.lt
        have HC19_gA : Hid (CellsAt w17 gA 27 #[.int .i64 KA.major, .int .i64 KA.minor, .slice qA kA jA, .slice aA lA.length cA]) := HC18_gA.out.below bq HC18_gA.out.lt
        have HC19_gB : Hid (CellsAt w17 gB 27 #[.int .i64 K.major, .int .i64 K.minor, .slice qB kB jB, .slice aB lB.length cB]) := HC18_gB.out.below bq HC18_gB.out.lt
        have HC19_gC : Hid (CellsAt w17 gC 27 #[.int .i64 K.major, .int .i64 K.minor, .slice qC kC jC, .slice aC lC.length cC]) := HC18_gC.out.below bq HC18_gC.out.lt
        have HR19_r : Hid (IsReg w17.heap.size w17 (.agg #[.int .i64 K.major, .int .i64 K.minor, .slice qe lk je, .slice a l.length cap]) K l) := (HR18_r.out.below bq).more bq.size
        have HR19_A : Hid (IsReg w17.heap.size w17 (.agg #[.int .i64 KA.major, .int .i64 KA.minor, .slice qA kA jA, .slice aA lA.length cA]) KA lA) := (HR18_A.out.below bq).more bq.size
        have HR19_B : Hid (IsReg w17.heap.size w17 (.agg #[.int .i64 K.major, .int .i64 K.minor, .slice qB kB jB, .slice aB lB.length cB]) K lB) := (HR18_B.out.below bq).more bq.size
        have HR19_C : Hid (IsReg w17.heap.size w17 (.agg #[.int .i64 K.major, .int .i64 K.minor, .slice qC kC jC, .slice aC lC.length cC]) K lC) := (HR18_C.out.below bq).more bq.size
        have HM19_m : Hid (IsMod w17.heap.size w17 (.agg #[.string M.name, .int .i64 M.major, .int .i64 M.minor, .string M.text, .slice pe le ke, .slice pi li ki, .slice pp lp kp]) M) := (HM18_m.out.below bq).more bq.size
        clear HB18 HC18_g1 HC18_g2 HC18_gA HC18_gB HC18_gC HR18_r HR18_A HR18_B HR18_C HM18_m
        clear bq HC1
        have rg10 := CellsAt.cell HC19_g1.out 0
        have rg11 := CellsAt.cell HC19_g1.out 1
        have rg12 := CellsAt.cell HC19_g1.out 2
        have rg13 := CellsAt.cell HC19_g1.out 3
        have rg1l := CellsAt.lt HC19_g1.out
        simp at rg10 rg11 rg12 rg13
        have rgC0 := CellsAt.cell HC19_gC.out 0
        have rgC1 := CellsAt.cell HC19_gC.out 1
        have rgC2 := CellsAt.cell HC19_gC.out 2
        have rgC3 := CellsAt.cell HC19_gC.out 3
        have rgCl := CellsAt.lt HC19_gC.out
        simp at rgC0 rgC1 rgC2 rgC3
        have rg20 := CellsAt.cell HC19_g2.out 0
        have rg21 := CellsAt.cell HC19_g2.out 1
        have rg22 := CellsAt.cell HC19_g2.out 2
        have rg23 := CellsAt.cell HC19_g2.out 3
        have rg24 := CellsAt.cell HC19_g2.out 4
        have rg25 := CellsAt.cell HC19_g2.out 5
        have rg26 := CellsAt.cell HC19_g2.out 6
        have rg2l := CellsAt.lt HC19_g2.out
        simp at rg20 rg21 rg22 rg23 rg24 rg25 rg26
        go_wp2_with fail
        clear rg10 rg11 rg12 rg13 rg1l
        clear rgC0 rgC1 rgC2 rgC3 rgCl
        clear rg20 rg21 rg22 rg23 rg24 rg25 rg26 rg2l
        refine (others_any K K l lC _ _ M.name _ HR19_r.out HR19_C.out HO1.out).mono ?_
        rintro e w18 ⟨rfl, bq⟩
        have HB20 : Hid (Below w.heap.size w w18) := HB19.out.trans (bq.mono HB19.out.size)
        have HC20_g1 : Hid (CellsAt w18 w.heap.size 27 #[.int .i64 K.major, .int .i64 K.minor, .slice qe lk je, .slice a l.length cap]) := HC19_g1.out.below bq HC19_g1.out.lt
        have HC20_g2 : Hid (CellsAt w18 (w.heap.size + 1) 31 #[.string M.name, .int .i64 M.major, .int .i64 M.minor, .string M.text, .slice pe le ke, .slice pi li ki, .slice pp lp kp]) := HC19_g2.out.below bq HC19_g2.out.lt
        have HC20_gA : Hid (CellsAt w18 gA 27 #[.int .i64 KA.major, .int .i64 KA.minor, .slice qA kA jA, .slice aA lA.length cA]) := HC19_gA.out.below bq HC19_gA.out.lt
        have HC20_gB : Hid (CellsAt w18 gB 27 #[.int .i64 K.major, .int .i64 K.minor, .slice qB kB jB, .slice aB lB.length cB]) := HC19_gB.out.below bq HC19_gB.out.lt
        have HC20_gC : Hid (CellsAt w18 gC 27 #[.int .i64 K.major, .int .i64 K.minor, .slice qC kC jC, .slice aC lC.length cC]) := HC19_gC.out.below bq HC19_gC.out.lt
        have HR20_r : Hid (IsReg w18.heap.size w18 (.agg #[.int .i64 K.major, .int .i64 K.minor, .slice qe lk je, .slice a l.length cap]) K l) := (HR19_r.out.below bq).more bq.size
        have HR20_A : Hid (IsReg w18.heap.size w18 (.agg #[.int .i64 KA.major, .int .i64 KA.minor, .slice qA kA jA, .slice aA lA.length cA]) KA lA) := (HR19_A.out.below bq).more bq.size
        have HR20_B : Hid (IsReg w18.heap.size w18 (.agg #[.int .i64 K.major, .int .i64 K.minor, .slice qB kB jB, .slice aB lB.length cB]) K lB) := (HR19_B.out.below bq).more bq.size
        have HR20_C : Hid (IsReg w18.heap.size w18 (.agg #[.int .i64 K.major, .int .i64 K.minor, .slice qC kC jC, .slice aC lC.length cC]) K lC) := (HR19_C.out.below bq).more bq.size
        have HM20_m : Hid (IsMod w18.heap.size w18 (.agg #[.string M.name, .int .i64 M.major, .int .i64 M.minor, .string M.text, .slice pe le ke, .slice pi li ki, .slice pp lp kp]) M) := (HM19_m.out.below bq).more bq.size
        clear HB19 HC19_g1 HC19_g2 HC19_gA HC19_gB HC19_gC HR19_r HR19_A HR19_B HR19_C HM19_m
        clear bq HO1
        have rg10 := CellsAt.cell HC20_g1.out 0
        have rg11 := CellsAt.cell HC20_g1.out 1
        have rg12 := CellsAt.cell HC20_g1.out 2
        have rg13 := CellsAt.cell HC20_g1.out 3
        have rg1l := CellsAt.lt HC20_g1.out
        simp at rg10 rg11 rg12 rg13
        have rgC0 := CellsAt.cell HC20_gC.out 0
        have rgC1 := CellsAt.cell HC20_gC.out 1
        have rgC2 := CellsAt.cell HC20_gC.out 2
        have rgC3 := CellsAt.cell HC20_gC.out 3
        have rgCl := CellsAt.lt HC20_gC.out
        simp at rgC0 rgC1 rgC2 rgC3
        have rg20 := CellsAt.cell HC20_g2.out 0
        have rg21 := CellsAt.cell HC20_g2.out 1
        have rg22 := CellsAt.cell HC20_g2.out 2
        have rg23 := CellsAt.cell HC20_g2.out 3
        have rg24 := CellsAt.cell HC20_g2.out 4
        have rg25 := CellsAt.cell HC20_g2.out 5
        have rg26 := CellsAt.cell HC20_g2.out 6
        have rg2l := CellsAt.lt HC20_g2.out
        simp at rg20 rg21 rg22 rg23 rg24 rg25 rg26
        go_wp2_with fail
        clear rg10 rg11 rg12 rg13 rg1l
        clear rgC0 rgC1 rgC2 rgC3 rgCl
        clear rg20 rg21 rg22 rg23 rg24 rg25 rg26 rg2l
        refine (others_any K K lC l _ _ M.name _ HR20_C.out HR20_r.out HO2.out).mono ?_
        rintro e w19 ⟨rfl, bq⟩
        have HB21 : Hid (Below w.heap.size w w19) := HB20.out.trans (bq.mono HB20.out.size)
        have HC21_g1 : Hid (CellsAt w19 w.heap.size 27 #[.int .i64 K.major, .int .i64 K.minor, .slice qe lk je, .slice a l.length cap]) := HC20_g1.out.below bq HC20_g1.out.lt
        have HC21_g2 : Hid (CellsAt w19 (w.heap.size + 1) 31 #[.string M.name, .int .i64 M.major, .int .i64 M.minor, .string M.text, .slice pe le ke, .slice pi li ki, .slice pp lp kp]) := HC20_g2.out.below bq HC20_g2.out.lt
        have HC21_gA : Hid (CellsAt w19 gA 27 #[.int .i64 KA.major, .int .i64 KA.minor, .slice qA kA jA, .slice aA lA.length cA]) := HC20_gA.out.below bq HC20_gA.out.lt
        have HC21_gB : Hid (CellsAt w19 gB 27 #[.int .i64 K.major, .int .i64 K.minor, .slice qB kB jB, .slice aB lB.length cB]) := HC20_gB.out.below bq HC20_gB.out.lt
        have HC21_gC : Hid (CellsAt w19 gC 27 #[.int .i64 K.major, .int .i64 K.minor, .slice qC kC jC, .slice aC lC.length cC]) := HC20_gC.out.below bq HC20_gC.out.lt
        have HR21_r : Hid (IsReg w19.heap.size w19 (.agg #[.int .i64 K.major, .int .i64 K.minor, .slice qe lk je, .slice a l.length cap]) K l) := (HR20_r.out.below bq).more bq.size
        have HR21_A : Hid (IsReg w19.heap.size w19 (.agg #[.int .i64 KA.major, .int .i64 KA.minor, .slice qA kA jA, .slice aA lA.length cA]) KA lA) := (HR20_A.out.below bq).more bq.size
        have HR21_B : Hid (IsReg w19.heap.size w19 (.agg #[.int .i64 K.major, .int .i64 K.minor, .slice qB kB jB, .slice aB lB.length cB]) K lB) := (HR20_B.out.below bq).more bq.size
        have HR21_C : Hid (IsReg w19.heap.size w19 (.agg #[.int .i64 K.major, .int .i64 K.minor, .slice qC kC jC, .slice aC lC.length cC]) K lC) := (HR20_C.out.below bq).more bq.size
        have HM21_m : Hid (IsMod w19.heap.size w19 (.agg #[.string M.name, .int .i64 M.major, .int .i64 M.minor, .string M.text, .slice pe le ke, .slice pi li ki, .slice pp lp kp]) M) := (HM20_m.out.below bq).more bq.size
        clear HB20 HC20_g1 HC20_g2 HC20_gA HC20_gB HC20_gC HR20_r HR20_A HR20_B HR20_C HM20_m
        clear bq HO2 hwa
        clear HALC HFTC HKKC
        go_wp2
        go_ret
        exact ⟨rfl, HB21.out⟩
  · obtain ⟨hpe, hpk, hc0, hc1, hln, hs1, hs2⟩ := hal
    replace hpk := hpk.symm
    try dsimp only at hpe hpk hc1 hln hs1 hs2
    subst hpe
    subst hpk
    rw [List.length_map, List.length_map] at hln
    have hl8 := HLN.out hc0
    have HO1 : Hid (∀ x ∈ l, x.mod.name ≠ M.name → ∃ (j : Nat) (y : PV), lA[j]? = some y ∧ ixFrom (fun z : PV => z.mod.name == x.mod.name) 0 lA = (j : Int) ∧ y.plc = x.plc) := others_found hc1 hs1
    have HO2 : Hid (∀ x ∈ lA, x.mod.name ≠ M.name → ∃ (j : Nat) (y : PV), l[j]? = some y ∧ ixFrom (fun z : PV => z.mod.name == x.mod.name) 0 l = (j : Int) ∧ y.plc = x.plc) := others_found hc0 hs2
    have HC1 : Hid (chkRg K (lA.map PV.plc) = 0) := hc1
    have hwa : IntKind.i64.wrap ((l.length : Int) + 1) = (lA.length : Int) := by rw [IntKind.wrap_i64]; omega
    clear hc0 hc1 hs1 hs2 hl8 hln
    have rgA0 := CellsAt.cell HC14_gA.out 0
    have rgA1 := CellsAt.cell HC14_gA.out 1
    have rgA2 := CellsAt.cell HC14_gA.out 2
    have rgA3 := CellsAt.cell HC14_gA.out 3
    have rgAl := CellsAt.lt HC14_gA.out
    simp at rgA0 rgA1 rgA2 rgA3
    go_wp2_with fail
    clear rgA0 rgA1 rgA2 rgA3 rgAl
    refine (HCH.out lA _ _ HFTA.out HC1.out HR14_A.out).mono ?_
    rintro e w20 ⟨rfl, bq⟩
    have HB16 : Hid (Below w.heap.size w w20) := HB14.out.trans (bq.mono HB14.out.size)
    have HC16_g1 : Hid (CellsAt w20 w.heap.size 27 #[.int .i64 K.major, .int .i64 K.minor, .slice qe lk je, .slice a l.length cap]) := HC14_g1.out.below bq HC14_g1.out.lt
    have HC16_g2 : Hid (CellsAt w20 (w.heap.size + 1) 31 #[.string M.name, .int .i64 M.major, .int .i64 M.minor, .string M.text, .slice pe le ke, .slice pi li ki, .slice pp lp kp]) := HC14_g2.out.below bq HC14_g2.out.lt
    have HC16_gA : Hid (CellsAt w20 gA 27 #[.int .i64 K.major, .int .i64 K.minor, .slice qA kA jA, .slice aA lA.length cA]) := HC14_gA.out.below bq HC14_gA.out.lt
    have HC16_gB : Hid (CellsAt w20 gB 27 #[.int .i64 KB.major, .int .i64 KB.minor, .slice qB kB jB, .slice aB lB.length cB]) := HC14_gB.out.below bq HC14_gB.out.lt
    have HC16_gC : Hid (CellsAt w20 gC 27 #[.int .i64 KC.major, .int .i64 KC.minor, .slice qC kC jC, .slice aC lC.length cC]) := HC15_gC.out.below bq HC15_gC.out.lt
    have HR16_r : Hid (IsReg w20.heap.size w20 (.agg #[.int .i64 K.major, .int .i64 K.minor, .slice qe lk je, .slice a l.length cap]) K l) := (HR14_r.out.below bq).more bq.size
    have HR16_A : Hid (IsReg w20.heap.size w20 (.agg #[.int .i64 K.major, .int .i64 K.minor, .slice qA kA jA, .slice aA lA.length cA]) K lA) := (HR14_A.out.below bq).more bq.size
    have HR16_B : Hid (IsReg w20.heap.size w20 (.agg #[.int .i64 KB.major, .int .i64 KB.minor, .slice qB kB jB, .slice aB lB.length cB]) KB lB) := (HR14_B.out.below bq).more bq.size
    have HR16_C : Hid (IsReg w20.heap.size w20 (.agg #[.int .i64 KC.major, .int .i64 KC.minor, .slice qC kC jC, .slice aC lC.length cC]) KC lC) := (HR14_C.out.below bq).more bq.size
    have HM16_m : Hid (IsMod w20.heap.size w20 (.agg #[.string M.name, .int .i64 M.major, .int .i64 M.minor, .string M.text, .slice pe le ke, .slice pi li ki, .slice pp lp kp]) M) := (HM14_m.out.below bq).more bq.size
    clear HB14 HC14_g1 HC14_g2 HC14_gA HC14_gB HC15_gC HR14_r HR14_A HR14_B HR14_C HM14_m
    clear bq HC1
    have rg10 := CellsAt.cell HC16_g1.out 0
    have rg11 := CellsAt.cell HC16_g1.out 1
    have rg12 := CellsAt.cell HC16_g1.out 2
    have rg13 := CellsAt.cell HC16_g1.out 3
    have rg1l := CellsAt.lt HC16_g1.out
    simp at rg10 rg11 rg12 rg13
    have rgA0 := CellsAt.cell HC16_gA.out 0
    have rgA1 := CellsAt.cell HC16_gA.out 1
    have rgA2 := CellsAt.cell HC16_gA.out 2
    have rgA3 := CellsAt.cell HC16_gA.out 3
    have rgAl := CellsAt.lt HC16_gA.out
    simp at rgA0 rgA1 rgA2 rgA3
    have rg20 := CellsAt.cell HC16_g2.out 0
    have rg21 := CellsAt.cell HC16_g2.out 1
    have rg22 := CellsAt.cell HC16_g2.out 2
    have rg23 := CellsAt.cell HC16_g2.out 3
    have rg24 := CellsAt.cell HC16_g2.out 4
    have rg25 := CellsAt.cell HC16_g2.out 5
    have rg26 := CellsAt.cell HC16_g2.out 6
    have rg2l := CellsAt.lt HC16_g2.out
    simp at rg20 rg21 rg22 rg23 rg24 rg25 rg26
    go_wp2_with fail
    clear rg10 rg11 rg12 rg13 rg1l
    clear rgA0 rgA1 rgA2 rgA3 rgAl
    clear rg20 rg21 rg22 rg23 rg24 rg25 rg26 rg2l
    refine (others_any K K l lA _ _ M.name _ HR16_r.out HR16_A.out HO1.out).mono ?_
    rintro e w21 ⟨rfl, bq⟩
    have HB17 : Hid (Below w.heap.size w w21) := HB16.out.trans (bq.mono HB16.out.size)
    have HC17_g1 : Hid (CellsAt w21 w.heap.size 27 #[.int .i64 K.major, .int .i64 K.minor, .slice qe lk je, .slice a l.length cap]) := HC16_g1.out.below bq HC16_g1.out.lt
    have HC17_g2 : Hid (CellsAt w21 (w.heap.size + 1) 31 #[.string M.name, .int .i64 M.major, .int .i64 M.minor, .string M.text, .slice pe le ke, .slice pi li ki, .slice pp lp kp]) := HC16_g2.out.below bq HC16_g2.out.lt
    have HC17_gA : Hid (CellsAt w21 gA 27 #[.int .i64 K.major, .int .i64 K.minor, .slice qA kA jA, .slice aA lA.length cA]) := HC16_gA.out.below bq HC16_gA.out.lt
    have HC17_gB : Hid (CellsAt w21 gB 27 #[.int .i64 KB.major, .int .i64 KB.minor, .slice qB kB jB, .slice aB lB.length cB]) := HC16_gB.out.below bq HC16_gB.out.lt
    have HC17_gC : Hid (CellsAt w21 gC 27 #[.int .i64 KC.major, .int .i64 KC.minor, .slice qC kC jC, .slice aC lC.length cC]) := HC16_gC.out.below bq HC16_gC.out.lt
    have HR17_r : Hid (IsReg w21.heap.size w21 (.agg #[.int .i64 K.major, .int .i64 K.minor, .slice qe lk je, .slice a l.length cap]) K l) := (HR16_r.out.below bq).more bq.size
    have HR17_A : Hid (IsReg w21.heap.size w21 (.agg #[.int .i64 K.major, .int .i64 K.minor, .slice qA kA jA, .slice aA lA.length cA]) K lA) := (HR16_A.out.below bq).more bq.size
    have HR17_B : Hid (IsReg w21.heap.size w21 (.agg #[.int .i64 KB.major, .int .i64 KB.minor, .slice qB kB jB, .slice aB lB.length cB]) KB lB) := (HR16_B.out.below bq).more bq.size
    have HR17_C : Hid (IsReg w21.heap.size w21 (.agg #[.int .i64 KC.major, .int .i64 KC.minor, .slice qC kC jC, .slice aC lC.length cC]) KC lC) := (HR16_C.out.below bq).more bq.size
    have HM17_m : Hid (IsMod w21.heap.size w21 (.agg #[.string M.name, .int .i64 M.major, .int .i64 M.minor, .string M.text, .slice pe le ke, .slice pi li ki, .slice pp lp kp]) M) := (HM16_m.out.below bq).more bq.size
    clear HB16 HC16_g1 HC16_g2 HC16_gA HC16_gB HC16_gC HR16_r HR16_A HR16_B HR16_C HM16_m
    clear bq HO1
    have rg10 := CellsAt.cell HC17_g1.out 0
    have rg11 := CellsAt.cell HC17_g1.out 1
    have rg12 := CellsAt.cell HC17_g1.out 2
    have rg13 := CellsAt.cell HC17_g1.out 3
    have rg1l := CellsAt.lt HC17_g1.out
    simp at rg10 rg11 rg12 rg13
    have rgA0 := CellsAt.cell HC17_gA.out 0
    have rgA1 := CellsAt.cell HC17_gA.out 1
    have rgA2 := CellsAt.cell HC17_gA.out 2
    have rgA3 := CellsAt.cell HC17_gA.out 3
    have rgAl := CellsAt.lt HC17_gA.out
    simp at rgA0 rgA1 rgA2 rgA3
    have rg20 := CellsAt.cell HC17_g2.out 0
    have rg21 := CellsAt.cell HC17_g2.out 1
    have rg22 := CellsAt.cell HC17_g2.out 2
    have rg23 := CellsAt.cell HC17_g2.out 3
    have rg24 := CellsAt.cell HC17_g2.out 4
    have rg25 := CellsAt.cell HC17_g2.out 5
    have rg26 := CellsAt.cell HC17_g2.out 6
    have rg2l := CellsAt.lt HC17_g2.out
    simp at rg20 rg21 rg22 rg23 rg24 rg25 rg26
    go_wp2_with fail
    clear rg10 rg11 rg12 rg13 rg1l
    clear rgA0 rgA1 rgA2 rgA3 rgAl
    clear rg20 rg21 rg22 rg23 rg24 rg25 rg26 rg2l
    refine (others_any K K lA l _ _ M.name _ HR17_A.out HR17_r.out HO2.out).mono ?_
    rintro e w22 ⟨rfl, bq⟩
    have HB18 : Hid (Below w.heap.size w w22) := HB17.out.trans (bq.mono HB17.out.size)
    have HC18_g1 : Hid (CellsAt w22 w.heap.size 27 #[.int .i64 K.major, .int .i64 K.minor, .slice qe lk je, .slice a l.length cap]) := HC17_g1.out.below bq HC17_g1.out.lt
    have HC18_g2 : Hid (CellsAt w22 (w.heap.size + 1) 31 #[.string M.name, .int .i64 M.major, .int .i64 M.minor, .string M.text, .slice pe le ke, .slice pi li ki, .slice pp lp kp]) := HC17_g2.out.below bq HC17_g2.out.lt
    have HC18_gA : Hid (CellsAt w22 gA 27 #[.int .i64 K.major, .int .i64 K.minor, .slice qA kA jA, .slice aA lA.length cA]) := HC17_gA.out.below bq HC17_gA.out.lt
    have HC18_gB : Hid (CellsAt w22 gB 27 #[.int .i64 KB.major, .int .i64 KB.minor, .slice qB kB jB, .slice aB lB.length cB]) := HC17_gB.out.below bq HC17_gB.out.lt
    have HC18_gC : Hid (CellsAt w22 gC 27 #[.int .i64 KC.major, .int .i64 KC.minor, .slice qC kC jC, .slice aC lC.length cC]) := HC17_gC.out.below bq HC17_gC.out.lt
    have HR18_r : Hid (IsReg w22.heap.size w22 (.agg #[.int .i64 K.major, .int .i64 K.minor, .slice qe lk je, .slice a l.length cap]) K l) := (HR17_r.out.below bq).more bq.size
    have HR18_A : Hid (IsReg w22.heap.size w22 (.agg #[.int .i64 K.major, .int .i64 K.minor, .slice qA kA jA, .slice aA lA.length cA]) K lA) := (HR17_A.out.below bq).more bq.size
    have HR18_B : Hid (IsReg w22.heap.size w22 (.agg #[.int .i64 KB.major, .int .i64 KB.minor, .slice qB kB jB, .slice aB lB.length cB]) KB lB) := (HR17_B.out.below bq).more bq.size
    have HR18_C : Hid (IsReg w22.heap.size w22 (.agg #[.int .i64 KC.major, .int .i64 KC.minor, .slice qC kC jC, .slice aC lC.length cC]) KC lC) := (HR17_C.out.below bq).more bq.size
    have HM18_m : Hid (IsMod w22.heap.size w22 (.agg #[.string M.name, .int .i64 M.major, .int .i64 M.minor, .string M.text, .slice pe le ke, .slice pi li ki, .slice pp lp kp]) M) := (HM17_m.out.below bq).more bq.size
    clear HB17 HC17_g1 HC17_g2 HC17_gA HC17_gB HC17_gC HR17_r HR17_A HR17_B HR17_C HM17_m
    clear bq HO2 hwa
    clear HALA HFTA HKKA
    go_upto_region 8 with fail
    rcases HALB.out with hal | hal
    · try dsimp only at hal
      have hal1 : (eB == 0) = false := by simpa using hal
      have hal2 : (eB != 0) = true := by simpa using hal
      have HAL2 : Hid (eB ≠ 0) := hal
      clear hal HALB HFTB HKKB
      go_upto_region 10 with fail
      clear hal1 hal2 HAL2
      rcases HALC.out with hal | hal
      · try dsimp only at hal
        have hal1 : (eC == 0) = false := by simpa using hal
        have hal2 : (eC != 0) = true := by simpa using hal
        have HAL2 : Hid (eC ≠ 0) := hal
        clear hal HALC HFTC HKKC
        go_wp2
        go_ret
        exact ⟨rfl, HB18.out⟩
      · obtain ⟨hpe, hpk, hc0, hc1, hln, hs1, hs2⟩ := hal
        replace hpk := hpk.symm
        try dsimp only at hpe hpk hc1 hln hs1 hs2
        subst hpe
        subst hpk
        rw [List.length_map, List.length_map] at hln
        have hl8 := HLN.out hc0
        have HO1 : Hid (∀ x ∈ l, x.mod.name ≠ M.name → ∃ (j : Nat) (y : PV), lC[j]? = some y ∧ ixFrom (fun z : PV => z.mod.name == x.mod.name) 0 lC = (j : Int) ∧ y.plc = x.plc) := others_found hc1 hs1
        have HO2 : Hid (∀ x ∈ lC, x.mod.name ≠ M.name → ∃ (j : Nat) (y : PV), l[j]? = some y ∧ ixFrom (fun z : PV => z.mod.name == x.mod.name) 0 l = (j : Int) ∧ y.plc = x.plc) := others_found hc0 hs2
        have HC1 : Hid (chkRg K (lC.map PV.plc) = 0) := hc1
        have hwa : (lC.length : Int) = (l.length : Int) := by omega
        clear hc0 hc1 hs1 hs2 hl8 hln
        have rgC0 := CellsAt.cell HC18_gC.out 0
        have rgC1 := CellsAt.cell HC18_gC.out 1
        have rgC2 := CellsAt.cell HC18_gC.out 2
        have rgC3 := CellsAt.cell HC18_gC.out 3
        have rgCl := CellsAt.lt HC18_gC.out
        simp at rgC0 rgC1 rgC2 rgC3
        go_wp2_with fail
        clear rgC0 rgC1 rgC2 rgC3 rgCl
        refine (HCH.out lC _ _ HFTC.out HC1.out HR18_C.out).mono ?_
        rintro e w23 ⟨rfl, bq⟩
        have HB19 : Hid (Below w.heap.size w w23) := HB18.out.trans (bq.mono HB18.out.size)
        have HC19_g1 : Hid (CellsAt w23 w.heap.size 27 #[.int .i64 K.major, .int .i64 K.minor, .slice qe lk je, .slice a l.length cap]) := HC18_g1.out.below bq HC18_g1.out.lt
        have HC19_g2 : Hid (CellsAt w23 (w.heap.size + 1) 31 #[.string M.name, .int .i64 M.major, .int .i64 M.minor, .string M.text, .slice pe le ke, .slice pi li ki, .slice pp lp kp]) := HC18_g2.out.below bq HC18_g2.out.lt
        have HC19_gA : Hid (CellsAt w23 gA 27 #[.int .i64 K.major, .int .i64 K.minor, .slice qA kA jA, .slice aA lA.length cA]) := HC18_gA.out.below bq HC18_gA.out.lt
        have HC19_gB : Hid (CellsAt w23 gB 27 #[.int .i64 KB.major, .int .i64 KB.minor, .slice qB kB jB, .slice aB lB.length cB]) := HC18_gB.out.below bq HC18_gB.out.lt
        have HC19_gC : Hid (CellsAt w23 gC 27 #[.int .i64 K.major, .int .i64 K.minor, .slice qC kC jC, .slice aC lC.length cC]) := HC18_gC.out.below bq HC18_gC.out.lt
        have HR19_r : Hid (IsReg w23.heap.size w23 (.agg #[.int .i64 K.major, .int .i64 K.minor, .slice qe lk je, .slice a l.length cap]) K l) := (HR18_r.out.below bq).more bq.size
        have HR19_A : Hid (IsReg w23.heap.size w23 (.agg #[.int .i64 K.major, .int .i64 K.minor, .slice qA kA jA, .slice aA lA.length cA]) K lA) := (HR18_A.out.below bq).more bq.size
        have HR19_B : Hid (IsReg w23.heap.size w23 (.agg #[.int .i64 KB.major, .int .i64 KB.minor, .slice qB kB jB, .slice aB lB.length cB]) KB lB) := (HR18_B.out.below bq).more bq.size
        have HR19_C : Hid (IsReg w23.heap.size w23 (.agg #[.int .i64 K.major, .int .i64 K.minor, .slice qC kC jC, .slice aC lC.length cC]) K lC) := (HR18_C.out.below bq).more bq.size
        have HM19_m : Hid (IsMod w23.heap.size w23 (.agg #[.string M.name, .int .i64 M.major, .int .i64 M.minor, .string M.text, .slice pe le ke, .slice pi li ki, .slice pp lp kp]) M) := (HM18_m.out.below bq).more bq.size
        clear HB18 HC18_g1 HC18_g2 HC18_gA HC18_gB HC18_gC HR18_r HR18_A HR18_B HR18_C HM18_m
        clear bq HC1
        have rg10 := CellsAt.cell HC19_g1.out 0
        have rg11 := CellsAt.cell HC19_g1.out 1
        have rg12 := CellsAt.cell HC19_g1.out 2
        have rg13 := CellsAt.cell HC19_g1.out 3
        have rg1l := CellsAt.lt HC19_g1.out
        simp at rg10 rg11 rg12 rg13
        have rgC0 := CellsAt.cell HC19_gC.out 0
        have rgC1 := CellsAt.cell HC19_gC.out 1
        have rgC2 := CellsAt.cell HC19_gC.out 2
        have rgC3 := CellsAt.cell HC19_gC.out 3
        have rgCl := CellsAt.lt HC19_gC.out
        simp at rgC0 rgC1 rgC2 rgC3
        have rg20 := CellsAt.cell HC19_g2.out 0
        have rg21 := CellsAt.cell HC19_g2.out 1
        have rg22 := CellsAt.cell HC19_g2.out 2
        have rg23 := CellsAt.cell HC19_g2.out 3
        have rg24 := CellsAt.cell HC19_g2.out 4
        have rg25 := CellsAt.cell HC19_g2.out 5
        have rg26 := CellsAt.cell HC19_g2.out 6
        have rg2l := CellsAt.lt HC19_g2.out
        simp at rg20 rg21 rg22 rg23 rg24 rg25 rg26
        go_wp2_with fail
        clear rg10 rg11 rg12 rg13 rg1l
        clear rgC0 rgC1 rgC2 rgC3 rgCl
        clear rg20 rg21 rg22 rg23 rg24 rg25 rg26 rg2l
        refine (others_any K K l lC _ _ M.name _ HR19_r.out HR19_C.out HO1.out).mono ?_
        rintro e w24 ⟨rfl, bq⟩
        have HB20 : Hid (Below w.heap.size w w24) := HB19.out.trans (bq.mono HB19.out.size)
        have HC20_g1 : Hid (CellsAt w24 w.heap.size 27 #[.int .i64 K.major, .int .i64 K.minor, .slice qe lk je, .slice a l.length cap]) := HC19_g1.out.below bq HC19_g1.out.lt
        have HC20_g2 : Hid (CellsAt w24 (w.heap.size + 1) 31 #[.string M.name, .int .i64 M.major, .int .i64 M.minor, .string M.text, .slice pe le ke, .slice pi li ki, .slice pp lp kp]) := HC19_g2.out.below bq HC19_g2.out.lt
        have HC20_gA : Hid (CellsAt w24 gA 27 #[.int .i64 K.major, .int .i64 K.minor, .slice qA kA jA, .slice aA lA.length cA]) := HC19_gA.out.below bq HC19_gA.out.lt
        have HC20_gB : Hid (CellsAt w24 gB 27 #[.int .i64 KB.major, .int .i64 KB.minor, .slice qB kB jB, .slice aB lB.length cB]) := HC19_gB.out.below bq HC19_gB.out.lt
        have HC20_gC : Hid (CellsAt w24 gC 27 #[.int .i64 K.major, .int .i64 K.minor, .slice qC kC jC, .slice aC lC.length cC]) := HC19_gC.out.below bq HC19_gC.out.lt
        have HR20_r : Hid (IsReg w24.heap.size w24 (.agg #[.int .i64 K.major, .int .i64 K.minor, .slice qe lk je, .slice a l.length cap]) K l) := (HR19_r.out.below bq).more bq.size
        have HR20_A : Hid (IsReg w24.heap.size w24 (.agg #[.int .i64 K.major, .int .i64 K.minor, .slice qA kA jA, .slice aA lA.length cA]) K lA) := (HR19_A.out.below bq).more bq.size
        have HR20_B : Hid (IsReg w24.heap.size w24 (.agg #[.int .i64 KB.major, .int .i64 KB.minor, .slice qB kB jB, .slice aB lB.length cB]) KB lB) := (HR19_B.out.below bq).more bq.size
        have HR20_C : Hid (IsReg w24.heap.size w24 (.agg #[.int .i64 K.major, .int .i64 K.minor, .slice qC kC jC, .slice aC lC.length cC]) K lC) := (HR19_C.out.below bq).more bq.size
        have HM20_m : Hid (IsMod w24.heap.size w24 (.agg #[.string M.name, .int .i64 M.major, .int .i64 M.minor, .string M.text, .slice pe le ke, .slice pi li ki, .slice pp lp kp]) M) := (HM19_m.out.below bq).more bq.size
        clear HB19 HC19_g1 HC19_g2 HC19_gA HC19_gB HC19_gC HR19_r HR19_A HR19_B HR19_C HM19_m
        clear bq HO1
        have rg10 := CellsAt.cell HC20_g1.out 0
        have rg11 := CellsAt.cell HC20_g1.out 1
        have rg12 := CellsAt.cell HC20_g1.out 2
        have rg13 := CellsAt.cell HC20_g1.out 3
        have rg1l := CellsAt.lt HC20_g1.out
        simp at rg10 rg11 rg12 rg13
        have rgC0 := CellsAt.cell HC20_gC.out 0
        have rgC1 := CellsAt.cell HC20_gC.out 1
        have rgC2 := CellsAt.cell HC20_gC.out 2
        have rgC3 := CellsAt.cell HC20_gC.out 3
        have rgCl := CellsAt.lt HC20_gC.out
        simp at rgC0 rgC1 rgC2 rgC3
        have rg20 := CellsAt.cell HC20_g2.out 0
        have rg21 := CellsAt.cell HC20_g2.out 1
        have rg22 := CellsAt.cell HC20_g2.out 2
        have rg23 := CellsAt.cell HC20_g2.out 3
        have rg24 := CellsAt.cell HC20_g2.out 4
        have rg25 := CellsAt.cell HC20_g2.out 5
        have rg26 := CellsAt.cell HC20_g2.out 6
        have rg2l := CellsAt.lt HC20_g2.out
        simp at rg20 rg21 rg22 rg23 rg24 rg25 rg26
        go_wp2_with fail
        clear rg10 rg11 rg12 rg13 rg1l
        clear rgC0 rgC1 rgC2 rgC3 rgCl
        clear rg20 rg21 rg22 rg23 rg24 rg25 rg26 rg2l
        refine (others_any K K lC l _ _ M.name _ HR20_C.out HR20_r.out HO2.out).mono ?_
        rintro e w25 ⟨rfl, bq⟩
        have HB21 : Hid (Below w.heap.size w w25) := HB20.out.trans (bq.mono HB20.out.size)
        have HC21_g1 : Hid (CellsAt w25 w.heap.size 27 #[.int .i64 K.major, .int .i64 K.minor, .slice qe lk je, .slice a l.length cap]) := HC20_g1.out.below bq HC20_g1.out.lt
        have HC21_g2 : Hid (CellsAt w25 (w.heap.size + 1) 31 #[.string M.name, .int .i64 M.major, .int .i64 M.minor, .string M.text, .slice pe le ke, .slice pi li ki, .slice pp lp kp]) := HC20_g2.out.below bq HC20_g2.out.lt
        have HC21_gA : Hid (CellsAt w25 gA 27 #[.int .i64 K.major, .int .i64 K.minor, .slice qA kA jA, .slice aA lA.length cA]) := HC20_gA.out.below bq HC20_gA.out.lt
        have HC21_gB : Hid (CellsAt w25 gB 27 #[.int .i64 KB.major, .int .i64 KB.minor, .slice qB kB jB, .slice aB lB.length cB]) := HC20_gB.out.below bq HC20_gB.out.lt
        have HC21_gC : Hid (CellsAt w25 gC 27 #[.int .i64 K.major, .int .i64 K.minor, .slice qC kC jC, .slice aC lC.length cC]) := HC20_gC.out.below bq HC20_gC.out.lt
        have HR21_r : Hid (IsReg w25.heap.size w25 (.agg #[.int .i64 K.major, .int .i64 K.minor, .slice qe lk je, .slice a l.length cap]) K l) := (HR20_r.out.below bq).more bq.size
        have HR21_A : Hid (IsReg w25.heap.size w25 (.agg #[.int .i64 K.major, .int .i64 K.minor, .slice qA kA jA, .slice aA lA.length cA]) K lA) := (HR20_A.out.below bq).more bq.size
        have HR21_B : Hid (IsReg w25.heap.size w25 (.agg #[.int .i64 KB.major, .int .i64 KB.minor, .slice qB kB jB, .slice aB lB.length cB]) KB lB) := (HR20_B.out.below bq).more bq.size
        have HR21_C : Hid (IsReg w25.heap.size w25 (.agg #[.int .i64 K.major, .int .i64 K.minor, .slice qC kC jC, .slice aC lC.length cC]) K lC) := (HR20_C.out.below bq).more bq.size
        have HM21_m : Hid (IsMod w25.heap.size w25 (.agg #[.string M.name, .int .i64 M.major, .int .i64 M.minor, .string M.text, .slice pe le ke, .slice pi li ki, .slice pp lp kp]) M) := (HM20_m.out.below bq).more bq.size
        clear HB20 HC20_g1 HC20_g2 HC20_gA HC20_gB HC20_gC HR20_r HR20_A HR20_B HR20_C HM20_m
        clear bq HO2 hwa
        clear HALC HFTC HKKC
        go_wp2
        go_ret
        exact ⟨rfl, HB21.out⟩
    · obtain ⟨hpe, hpk, hc0, hc1, hln, hs1, hs2⟩ := hal
      replace hpk := hpk.symm
      try dsimp only at hpe hpk hc1 hln hs1 hs2
      subst hpe
      subst hpk
      rw [List.length_map, List.length_map] at hln
      have hl8 := HLN.out hc0
      have HO1 : Hid (∀ x ∈ l, x.mod.name ≠ name → ∃ (j : Nat) (y : PV), lB[j]? = some y ∧ ixFrom (fun z : PV => z.mod.name == x.mod.name) 0 lB = (j : Int) ∧ y.plc = x.plc) := others_found hc1 hs1
      have HO2 : Hid (∀ x ∈ lB, x.mod.name ≠ name → ∃ (j : Nat) (y : PV), l[j]? = some y ∧ ixFrom (fun z : PV => z.mod.name == x.mod.name) 0 l = (j : Int) ∧ y.plc = x.plc) := others_found hc0 hs2
      have HC1 : Hid (chkRg K (lB.map PV.plc) = 0) := hc1
      have hwa : IntKind.i64.wrap ((l.length : Int) - 1) = (lB.length : Int) := by rw [IntKind.wrap_i64]; omega
      clear hc0 hc1 hs1 hs2 hl8 hln
      have rgB0 := CellsAt.cell HC18_gB.out 0
      have rgB1 := CellsAt.cell HC18_gB.out 1
      have rgB2 := CellsAt.cell HC18_gB.out 2
      have rgB3 := CellsAt.cell HC18_gB.out 3
      have rgBl := CellsAt.lt HC18_gB.out
      simp at rgB0 rgB1 rgB2 rgB3
      go_wp2_with fail
      clear rgB0 rgB1 rgB2 rgB3 rgBl
      refine (HCH.out lB _ _ HFTB.out HC1.out HR18_B.out).mono ?_
      rintro e w26 ⟨rfl, bq⟩
      have HB19 : Hid (Below w.heap.size w w26) := HB18.out.trans (bq.mono HB18.out.size)
      have HC19_g1 : Hid (CellsAt w26 w.heap.size 27 #[.int .i64 K.major, .int .i64 K.minor, .slice qe lk je, .slice a l.length cap]) := HC18_g1.out.below bq HC18_g1.out.lt
      have HC19_g2 : Hid (CellsAt w26 (w.heap.size + 1) 31 #[.string M.name, .int .i64 M.major, .int .i64 M.minor, .string M.text, .slice pe le ke, .slice pi li ki, .slice pp lp kp]) := HC18_g2.out.below bq HC18_g2.out.lt
      have HC19_gA : Hid (CellsAt w26 gA 27 #[.int .i64 K.major, .int .i64 K.minor, .slice qA kA jA, .slice aA lA.length cA]) := HC18_gA.out.below bq HC18_gA.out.lt
      have HC19_gB : Hid (CellsAt w26 gB 27 #[.int .i64 K.major, .int .i64 K.minor, .slice qB kB jB, .slice aB lB.length cB]) := HC18_gB.out.below bq HC18_gB.out.lt
      have HC19_gC : Hid (CellsAt w26 gC 27 #[.int .i64 KC.major, .int .i64 KC.minor, .slice qC kC jC, .slice aC lC.length cC]) := HC18_gC.out.below bq HC18_gC.out.lt
      have HR19_r : Hid (IsReg w26.heap.size w26 (.agg #[.int .i64 K.major, .int .i64 K.minor, .slice qe lk je, .slice a l.length cap]) K l) := (HR18_r.out.below bq).more bq.size
      have HR19_A : Hid (IsReg w26.heap.size w26 (.agg #[.int .i64 K.major, .int .i64 K.minor, .slice qA kA jA, .slice aA lA.length cA]) K lA) := (HR18_A.out.below bq).more bq.size
      have HR19_B : Hid (IsReg w26.heap.size w26 (.agg #[.int .i64 K.major, .int .i64 K.minor, .slice qB kB jB, .slice aB lB.length cB]) K lB) := (HR18_B.out.below bq).more bq.size
      have HR19_C : Hid (IsReg w26.heap.size w26 (.agg #[.int .i64 KC.major, .int .i64 KC.minor, .slice qC kC jC, .slice aC lC.length cC]) KC lC) := (HR18_C.out.below bq).more bq.size
      have HM19_m : Hid (IsMod w26.heap.size w26 (.agg #[.string M.name, .int .i64 M.major, .int .i64 M.minor, .string M.text, .slice pe le ke, .slice pi li ki, .slice pp lp kp]) M) := (HM18_m.out.below bq).more bq.size
      clear HB18 HC18_g1 HC18_g2 HC18_gA HC18_gB HC18_gC HR18_r HR18_A HR18_B HR18_C HM18_m
      clear bq HC1
      have rg10 := CellsAt.cell HC19_g1.out 0
      have rg11 := CellsAt.cell HC19_g1.out 1
      have rg12 := CellsAt.cell HC19_g1.out 2
      have rg13 := CellsAt.cell HC19_g1.out 3
      have rg1l := CellsAt.lt HC19_g1.out
      simp at rg10 rg11 rg12 rg13
      have rgB0 := CellsAt.cell HC19_gB.out 0
      have rgB1 := CellsAt.cell HC19_gB.out 1
      have rgB2 := CellsAt.cell HC19_gB.out 2
      have rgB3 := CellsAt.cell HC19_gB.out 3
      have rgBl := CellsAt.lt HC19_gB.out
      simp at rgB0 rgB1 rgB2 rgB3
      have rg20 := CellsAt.cell HC19_g2.out 0
      have rg21 := CellsAt.cell HC19_g2.out 1
      have rg22 := CellsAt.cell HC19_g2.out 2
      have rg23 := CellsAt.cell HC19_g2.out 3
      have rg24 := CellsAt.cell HC19_g2.out 4
      have rg25 := CellsAt.cell HC19_g2.out 5
      have rg26 := CellsAt.cell HC19_g2.out 6
      have rg2l := CellsAt.lt HC19_g2.out
      simp at rg20 rg21 rg22 rg23 rg24 rg25 rg26
      go_wp2_with fail
      clear rg10 rg11 rg12 rg13 rg1l
      clear rgB0 rgB1 rgB2 rgB3 rgBl
      clear rg20 rg21 rg22 rg23 rg24 rg25 rg26 rg2l
      refine (others_any K K l lB _ _ name _ HR19_r.out HR19_B.out HO1.out).mono ?_
      rintro e w27 ⟨rfl, bq⟩
      have HB20 : Hid (Below w.heap.size w w27) := HB19.out.trans (bq.mono HB19.out.size)
      have HC20_g1 : Hid (CellsAt w27 w.heap.size 27 #[.int .i64 K.major, .int .i64 K.minor, .slice qe lk je, .slice a l.length cap]) := HC19_g1.out.below bq HC19_g1.out.lt
      have HC20_g2 : Hid (CellsAt w27 (w.heap.size + 1) 31 #[.string M.name, .int .i64 M.major, .int .i64 M.minor, .string M.text, .slice pe le ke, .slice pi li ki, .slice pp lp kp]) := HC19_g2.out.below bq HC19_g2.out.lt
      have HC20_gA : Hid (CellsAt w27 gA 27 #[.int .i64 K.major, .int .i64 K.minor, .slice qA kA jA, .slice aA lA.length cA]) := HC19_gA.out.below bq HC19_gA.out.lt
      have HC20_gB : Hid (CellsAt w27 gB 27 #[.int .i64 K.major, .int .i64 K.minor, .slice qB kB jB, .slice aB lB.length cB]) := HC19_gB.out.below bq HC19_gB.out.lt
      have HC20_gC : Hid (CellsAt w27 gC 27 #[.int .i64 KC.major, .int .i64 KC.minor, .slice qC kC jC, .slice aC lC.length cC]) := HC19_gC.out.below bq HC19_gC.out.lt
      have HR20_r : Hid (IsReg w27.heap.size w27 (.agg #[.int .i64 K.major, .int .i64 K.minor, .slice qe lk je, .slice a l.length cap]) K l) := (HR19_r.out.below bq).more bq.size
      have HR20_A : Hid (IsReg w27.heap.size w27 (.agg #[.int .i64 K.major, .int .i64 K.minor, .slice qA kA jA, .slice aA lA.length cA]) K lA) := (HR19_A.out.below bq).more bq.size
      have HR20_B : Hid (IsReg w27.heap.size w27 (.agg #[.int .i64 K.major, .int .i64 K.minor, .slice qB kB jB, .slice aB lB.length cB]) K lB) := (HR19_B.out.below bq).more bq.size
      have HR20_C : Hid (IsReg w27.heap.size w27 (.agg #[.int .i64 KC.major, .int .i64 KC.minor, .slice qC kC jC, .slice aC lC.length cC]) KC lC) := (HR19_C.out.below bq).more bq.size
      have HM20_m : Hid (IsMod w27.heap.size w27 (.agg #[.string M.name, .int .i64 M.major, .int .i64 M.minor, .string M.text, .slice pe le ke, .slice pi li ki, .slice pp lp kp]) M) := (HM19_m.out.below bq).more bq.size
      clear HB19 HC19_g1 HC19_g2 HC19_gA HC19_gB HC19_gC HR19_r HR19_A HR19_B HR19_C HM19_m
      clear bq HO1
      have rg10 := CellsAt.cell HC20_g1.out 0
      have rg11 := CellsAt.cell HC20_g1.out 1
      have rg12 := CellsAt.cell HC20_g1.out 2
      have rg13 := CellsAt.cell HC20_g1.out 3
      have rg1l := CellsAt.lt HC20_g1.out
      simp at rg10 rg11 rg12 rg13
      have rgB0 := CellsAt.cell HC20_gB.out 0
      have rgB1 := CellsAt.cell HC20_gB.out 1
      have rgB2 := CellsAt.cell HC20_gB.out 2
      have rgB3 := CellsAt.cell HC20_gB.out 3
      have rgBl := CellsAt.lt HC20_gB.out
      simp at rgB0 rgB1 rgB2 rgB3
      have rg20 := CellsAt.cell HC20_g2.out 0
      have rg21 := CellsAt.cell HC20_g2.out 1
      have rg22 := CellsAt.cell HC20_g2.out 2
      have rg23 := CellsAt.cell HC20_g2.out 3
      have rg24 := CellsAt.cell HC20_g2.out 4
      have rg25 := CellsAt.cell HC20_g2.out 5
      have rg26 := CellsAt.cell HC20_g2.out 6
      have rg2l := CellsAt.lt HC20_g2.out
      simp at rg20 rg21 rg22 rg23 rg24 rg25 rg26
      go_wp2_with fail
      clear rg10 rg11 rg12 rg13 rg1l
      clear rgB0 rgB1 rgB2 rgB3 rgBl
      clear rg20 rg21 rg22 rg23 rg24 rg25 rg26 rg2l
      refine (others_any K K lB l _ _ name _ HR20_B.out HR20_r.out HO2.out).mono ?_
      rintro e w28 ⟨rfl, bq⟩
      have HB21 : Hid (Below w.heap.size w w28) := HB20.out.trans (bq.mono HB20.out.size)
      have HC21_g1 : Hid (CellsAt w28 w.heap.size 27 #[.int .i64 K.major, .int .i64 K.minor, .slice qe lk je, .slice a l.length cap]) := HC20_g1.out.below bq HC20_g1.out.lt
      have HC21_g2 : Hid (CellsAt w28 (w.heap.size + 1) 31 #[.string M.name, .int .i64 M.major, .int .i64 M.minor, .string M.text, .slice pe le ke, .slice pi li ki, .slice pp lp kp]) := HC20_g2.out.below bq HC20_g2.out.lt
      have HC21_gA : Hid (CellsAt w28 gA 27 #[.int .i64 K.major, .int .i64 K.minor, .slice qA kA jA, .slice aA lA.length cA]) := HC20_gA.out.below bq HC20_gA.out.lt
      have HC21_gB : Hid (CellsAt w28 gB 27 #[.int .i64 K.major, .int .i64 K.minor, .slice qB kB jB, .slice aB lB.length cB]) := HC20_gB.out.below bq HC20_gB.out.lt
      have HC21_gC : Hid (CellsAt w28 gC 27 #[.int .i64 KC.major, .int .i64 KC.minor, .slice qC kC jC, .slice aC lC.length cC]) := HC20_gC.out.below bq HC20_gC.out.lt
      have HR21_r : Hid (IsReg w28.heap.size w28 (.agg #[.int .i64 K.major, .int .i64 K.minor, .slice qe lk je, .slice a l.length cap]) K l) := (HR20_r.out.below bq).more bq.size
      have HR21_A : Hid (IsReg w28.heap.size w28 (.agg #[.int .i64 K.major, .int .i64 K.minor, .slice qA kA jA, .slice aA lA.length cA]) K lA) := (HR20_A.out.below bq).more bq.size
      have HR21_B : Hid (IsReg w28.heap.size w28 (.agg #[.int .i64 K.major, .int .i64 K.minor, .slice qB kB jB, .slice aB lB.length cB]) K lB) := (HR20_B.out.below bq).more bq.size
      have HR21_C : Hid (IsReg w28.heap.size w28 (.agg #[.int .i64 KC.major, .int .i64 KC.minor, .slice qC kC jC, .slice aC lC.length cC]) KC lC) := (HR20_C.out.below bq).more bq.size
      have HM21_m : Hid (IsMod w28.heap.size w28 (.agg #[.string M.name, .int .i64 M.major, .int .i64 M.minor, .string M.text, .slice pe le ke, .slice pi li ki, .slice pp lp kp]) M) := (HM20_m.out.below bq).more bq.size
      clear HB20 HC20_g1 HC20_g2 HC20_gA HC20_gB HC20_gC HR20_r HR20_A HR20_B HR20_C HM20_m
      clear bq HO2 hwa
      clear HALB HFTB HKKB
      go_upto_region 10 with fail
      rcases HALC.out with hal | hal
      · try dsimp only at hal
        have hal1 : (eC == 0) = false := by simpa using hal
        have hal2 : (eC != 0) = true := by simpa using hal
        have HAL2 : Hid (eC ≠ 0) := hal
        clear hal HALC HFTC HKKC
        go_wp2
        go_ret
        exact ⟨rfl, HB21.out⟩
      · obtain ⟨hpe, hpk, hc0, hc1, hln, hs1, hs2⟩ := hal
        replace hpk := hpk.symm
        try dsimp only at hpe hpk hc1 hln hs1 hs2
        subst hpe
        subst hpk
        rw [List.length_map, List.length_map] at hln
        have hl8 := HLN.out hc0
        have HO1 : Hid (∀ x ∈ l, x.mod.name ≠ M.name → ∃ (j : Nat) (y : PV), lC[j]? = some y ∧ ixFrom (fun z : PV => z.mod.name == x.mod.name) 0 lC = (j : Int) ∧ y.plc = x.plc) := others_found hc1 hs1
        have HO2 : Hid (∀ x ∈ lC, x.mod.name ≠ M.name → ∃ (j : Nat) (y : PV), l[j]? = some y ∧ ixFrom (fun z : PV => z.mod.name == x.mod.name) 0 l = (j : Int) ∧ y.plc = x.plc) := others_found hc0 hs2
        have HC1 : Hid (chkRg K (lC.map PV.plc) = 0) := hc1
        have hwa : (lC.length : Int) = (l.length : Int) := by omega
        clear hc0 hc1 hs1 hs2 hl8 hln
        have rgC0 := CellsAt.cell HC21_gC.out 0
        have rgC1 := CellsAt.cell HC21_gC.out 1
        have rgC2 := CellsAt.cell HC21_gC.out 2
        have rgC3 := CellsAt.cell HC21_gC.out 3
        have rgCl := CellsAt.lt HC21_gC.out
        simp at rgC0 rgC1 rgC2 rgC3
        go_wp2_with fail
        clear rgC0 rgC1 rgC2 rgC3 rgCl
        refine (HCH.out lC _ _ HFTC.out HC1.out HR21_C.out).mono ?_
        rintro e w29 ⟨rfl, bq⟩
        have HB22 : Hid (Below w.heap.size w w29) := HB21.out.trans (bq.mono HB21.out.size)
        have HC22_g1 : Hid (CellsAt w29 w.heap.size 27 #[.int .i64 K.major, .int .i64 K.minor, .slice qe lk je, .slice a l.length cap]) := HC21_g1.out.below bq HC21_g1.out.lt
        have HC22_g2 : Hid (CellsAt w29 (w.heap.size + 1) 31 #[.string M.name, .int .i64 M.major, .int .i64 M.minor, .string M.text, .slice pe le ke, .slice pi li ki, .slice pp lp kp]) := HC21_g2.out.below bq HC21_g2.out.lt
        have HC22_gA : Hid (CellsAt w29 gA 27 #[.int .i64 K.major, .int .i64 K.minor, .slice qA kA jA, .slice aA lA.length cA]) := HC21_gA.out.below bq HC21_gA.out.lt
        have HC22_gB : Hid (CellsAt w29 gB 27 #[.int .i64 K.major, .int .i64 K.minor, .slice qB kB jB, .slice aB lB.length cB]) := HC21_gB.out.below bq HC21_gB.out.lt
        have HC22_gC : Hid (CellsAt w29 gC 27 #[.int .i64 K.major, .int .i64 K.minor, .slice qC kC jC, .slice aC lC.length cC]) := HC21_gC.out.below bq HC21_gC.out.lt
        have HR22_r : Hid (IsReg w29.heap.size w29 (.agg #[.int .i64 K.major, .int .i64 K.minor, .slice qe lk je, .slice a l.length cap]) K l) := (HR21_r.out.below bq).more bq.size
        have HR22_A : Hid (IsReg w29.heap.size w29 (.agg #[.int .i64 K.major, .int .i64 K.minor, .slice qA kA jA, .slice aA lA.length cA]) K lA) := (HR21_A.out.below bq).more bq.size
        have HR22_B : Hid (IsReg w29.heap.size w29 (.agg #[.int .i64 K.major, .int .i64 K.minor, .slice qB kB jB, .slice aB lB.length cB]) K lB) := (HR21_B.out.below bq).more bq.size
        have HR22_C : Hid (IsReg w29.heap.size w29 (.agg #[.int .i64 K.major, .int .i64 K.minor, .slice qC kC jC, .slice aC lC.length cC]) K lC) := (HR21_C.out.below bq).more bq.size
        have HM22_m : Hid (IsMod w29.heap.size w29 (.agg #[.string M.name, .int .i64 M.major, .int .i64 M.minor, .string M.text, .slice pe le ke, .slice pi li ki, .slice pp lp kp]) M) := (HM21_m.out.below bq).more bq.size
        clear HB21 HC21_g1 HC21_g2 HC21_gA HC21_gB HC21_gC HR21_r HR21_A HR21_B HR21_C HM21_m
        clear bq HC1
        have rg10 := CellsAt.cell HC22_g1.out 0
        have rg11 := CellsAt.cell HC22_g1.out 1
        have rg12 := CellsAt.cell HC22_g1.out 2
        have rg13 := CellsAt.cell HC22_g1.out 3
        have rg1l := CellsAt.lt HC22_g1.out
        simp at rg10 rg11 rg12 rg13
        have rgC0 := CellsAt.cell HC22_gC.out 0
        have rgC1 := CellsAt.cell HC22_gC.out 1
        have rgC2 := CellsAt.cell HC22_gC.out 2
        have rgC3 := CellsAt.cell HC22_gC.out 3
        have rgCl := CellsAt.lt HC22_gC.out
        simp at rgC0 rgC1 rgC2 rgC3
        have rg20 := CellsAt.cell HC22_g2.out 0
        have rg21 := CellsAt.cell HC22_g2.out 1
        have rg22 := CellsAt.cell HC22_g2.out 2
        have rg23 := CellsAt.cell HC22_g2.out 3
        have rg24 := CellsAt.cell HC22_g2.out 4
        have rg25 := CellsAt.cell HC22_g2.out 5
        have rg26 := CellsAt.cell HC22_g2.out 6
        have rg2l := CellsAt.lt HC22_g2.out
        simp at rg20 rg21 rg22 rg23 rg24 rg25 rg26
        go_wp2_with fail
        clear rg10 rg11 rg12 rg13 rg1l
        clear rgC0 rgC1 rgC2 rgC3 rgCl
        clear rg20 rg21 rg22 rg23 rg24 rg25 rg26 rg2l
        refine (others_any K K l lC _ _ M.name _ HR22_r.out HR22_C.out HO1.out).mono ?_
        rintro e w30 ⟨rfl, bq⟩
        have HB23 : Hid (Below w.heap.size w w30) := HB22.out.trans (bq.mono HB22.out.size)
        have HC23_g1 : Hid (CellsAt w30 w.heap.size 27 #[.int .i64 K.major, .int .i64 K.minor, .slice qe lk je, .slice a l.length cap]) := HC22_g1.out.below bq HC22_g1.out.lt
        have HC23_g2 : Hid (CellsAt w30 (w.heap.size + 1) 31 #[.string M.name, .int .i64 M.major, .int .i64 M.minor, .string M.text, .slice pe le ke, .slice pi li ki, .slice pp lp kp]) := HC22_g2.out.below bq HC22_g2.out.lt
        have HC23_gA : Hid (CellsAt w30 gA 27 #[.int .i64 K.major, .int .i64 K.minor, .slice qA kA jA, .slice aA lA.length cA]) := HC22_gA.out.below bq HC22_gA.out.lt
        have HC23_gB : Hid (CellsAt w30 gB 27 #[.int .i64 K.major, .int .i64 K.minor, .slice qB kB jB, .slice aB lB.length cB]) := HC22_gB.out.below bq HC22_gB.out.lt
        have HC23_gC : Hid (CellsAt w30 gC 27 #[.int .i64 K.major, .int .i64 K.minor, .slice qC kC jC, .slice aC lC.length cC]) := HC22_gC.out.below bq HC22_gC.out.lt
        have HR23_r : Hid (IsReg w30.heap.size w30 (.agg #[.int .i64 K.major, .int .i64 K.minor, .slice qe lk je, .slice a l.length cap]) K l) := (HR22_r.out.below bq).more bq.size
        have HR23_A : Hid (IsReg w30.heap.size w30 (.agg #[.int .i64 K.major, .int .i64 K.minor, .slice qA kA jA, .slice aA lA.length cA]) K lA) := (HR22_A.out.below bq).more bq.size
        have HR23_B : Hid (IsReg w30.heap.size w30 (.agg #[.int .i64 K.major, .int .i64 K.minor, .slice qB kB jB, .slice aB lB.length cB]) K lB) := (HR22_B.out.below bq).more bq.size
        have HR23_C : Hid (IsReg w30.heap.size w30 (.agg #[.int .i64 K.major, .int .i64 K.minor, .slice qC kC jC, .slice aC lC.length cC]) K lC) := (HR22_C.out.below bq).more bq.size
        have HM23_m : Hid (IsMod w30.heap.size w30 (.agg #[.string M.name, .int .i64 M.major, .int .i64 M.minor, .string M.text, .slice pe le ke, .slice pi li ki, .slice pp lp kp]) M) := (HM22_m.out.below bq).more bq.size
        clear HB22 HC22_g1 HC22_g2 HC22_gA HC22_gB HC22_gC HR22_r HR22_A HR22_B HR22_C HM22_m
        clear bq HO1
        have rg10 := CellsAt.cell HC23_g1.out 0
        have rg11 := CellsAt.cell HC23_g1.out 1
        have rg12 := CellsAt.cell HC23_g1.out 2
        have rg13 := CellsAt.cell HC23_g1.out 3
        have rg1l := CellsAt.lt HC23_g1.out
        simp at rg10 rg11 rg12 rg13
        have rgC0 := CellsAt.cell HC23_gC.out 0
        have rgC1 := CellsAt.cell HC23_gC.out 1
        have rgC2 := CellsAt.cell HC23_gC.out 2
        have rgC3 := CellsAt.cell HC23_gC.out 3
        have rgCl := CellsAt.lt HC23_gC.out
        simp at rgC0 rgC1 rgC2 rgC3
        have rg20 := CellsAt.cell HC23_g2.out 0
        have rg21 := CellsAt.cell HC23_g2.out 1
        have rg22 := CellsAt.cell HC23_g2.out 2
        have rg23 := CellsAt.cell HC23_g2.out 3
        have rg24 := CellsAt.cell HC23_g2.out 4
        have rg25 := CellsAt.cell HC23_g2.out 5
        have rg26 := CellsAt.cell HC23_g2.out 6
        have rg2l := CellsAt.lt HC23_g2.out
        simp at rg20 rg21 rg22 rg23 rg24 rg25 rg26
        go_wp2_with fail
        clear rg10 rg11 rg12 rg13 rg1l
        clear rgC0 rgC1 rgC2 rgC3 rgCl
        clear rg20 rg21 rg22 rg23 rg24 rg25 rg26 rg2l
        refine (others_any K K lC l _ _ M.name _ HR23_C.out HR23_r.out HO2.out).mono ?_
        rintro e w31 ⟨rfl, bq⟩
        have HB24 : Hid (Below w.heap.size w w31) := HB23.out.trans (bq.mono HB23.out.size)
        have HC24_g1 : Hid (CellsAt w31 w.heap.size 27 #[.int .i64 K.major, .int .i64 K.minor, .slice qe lk je, .slice a l.length cap]) := HC23_g1.out.below bq HC23_g1.out.lt
        have HC24_g2 : Hid (CellsAt w31 (w.heap.size + 1) 31 #[.string M.name, .int .i64 M.major, .int .i64 M.minor, .string M.text, .slice pe le ke, .slice pi li ki, .slice pp lp kp]) := HC23_g2.out.below bq HC23_g2.out.lt
        have HC24_gA : Hid (CellsAt w31 gA 27 #[.int .i64 K.major, .int .i64 K.minor, .slice qA kA jA, .slice aA lA.length cA]) := HC23_gA.out.below bq HC23_gA.out.lt
        have HC24_gB : Hid (CellsAt w31 gB 27 #[.int .i64 K.major, .int .i64 K.minor, .slice qB kB jB, .slice aB lB.length cB]) := HC23_gB.out.below bq HC23_gB.out.lt
        have HC24_gC : Hid (CellsAt w31 gC 27 #[.int .i64 K.major, .int .i64 K.minor, .slice qC kC jC, .slice aC lC.length cC]) := HC23_gC.out.below bq HC23_gC.out.lt
        have HR24_r : Hid (IsReg w31.heap.size w31 (.agg #[.int .i64 K.major, .int .i64 K.minor, .slice qe lk je, .slice a l.length cap]) K l) := (HR23_r.out.below bq).more bq.size
        have HR24_A : Hid (IsReg w31.heap.size w31 (.agg #[.int .i64 K.major, .int .i64 K.minor, .slice qA kA jA, .slice aA lA.length cA]) K lA) := (HR23_A.out.below bq).more bq.size
        have HR24_B : Hid (IsReg w31.heap.size w31 (.agg #[.int .i64 K.major, .int .i64 K.minor, .slice qB kB jB, .slice aB lB.length cB]) K lB) := (HR23_B.out.below bq).more bq.size
        have HR24_C : Hid (IsReg w31.heap.size w31 (.agg #[.int .i64 K.major, .int .i64 K.minor, .slice qC kC jC, .slice aC lC.length cC]) K lC) := (HR23_C.out.below bq).more bq.size
        have HM24_m : Hid (IsMod w31.heap.size w31 (.agg #[.string M.name, .int .i64 M.major, .int .i64 M.minor, .string M.text, .slice pe le ke, .slice pi li ki, .slice pp lp kp]) M) := (HM23_m.out.below bq).more bq.size
        clear HB23 HC23_g1 HC23_g2 HC23_gA HC23_gB HC23_gC HR23_r HR23_A HR23_B HR23_C HM23_m
        clear bq HO2 hwa
        clear HALC HFTC HKKC
        go_wp2
        go_ret
        exact ⟨rfl, HB24.out⟩

end Go.Proofs.YthmohjgdcjafkaeGreat.planOthers

/- Arguments that came in: texts, numbers, rows, a patch. -/
namespace Go.Proofs.YthmohjgdcjafkaeGreat
open Go.ChangeShapes Go.WideShapes Go.ChangeAt Go.RowKit Go.PlainAid Go.Deep

set_option maxRecDepth 100000

theorem list7 {α : Type} {l : List α} (h : l.length = 7) : ∃ a b c d e f g, l = [a, b, c, d, e, f, g] := by
  match l, h with
  | [a, b, c, d, e, f, g], _ => exact ⟨a, b, c, d, e, f, g, rfl⟩
theorem list4 {α : Type} {l : List α} (h : l.length = 4) : ∃ a b c d, l = [a, b, c, d] := by
  match l, h with
  | [a, b, c, d], _ => exact ⟨a, b, c, d, rfl⟩
theorem list2 {α : Type} {l : List α} (h : l.length = 2) : ∃ a b, l = [a, b] := by
  match l, h with
  | [a, b], _ => exact ⟨a, b, rfl⟩

section
variable {H : Type} {enc : TypeId × Value → H} {W : World} {spare : Nat → Bool} {held : Bool}

theorem row_of_trod {α : Type} [Inhabited α] {t e : TypeId} {sz fuel : Nat} {c : Value} {y : DataW H × List MemPlace} {cells : α → Nat → Value} {good : α → Prop} (ht : Tryz.prog.underlying t = some (.slice e)) (hsz : Tryz.prog.cellsOf e = sz) (h0 : 0 < sz)
    (conv : ∀ n cs z, cs.length = sz → DataW.trod enc Tryz.prog W 0 spare held n e cs = some z → ∃ x : α, (∀ i, i < sz → cs[i]? = some (cells x i)) ∧ good x)
    (h : DataW.trod enc Tryz.prog W 0 spare held fuel t [c] = some y) : ∃ l : List α, RowOf sz cells W.heap.size W c l ∧ ∀ x ∈ l, good x := by
  rcases open_slice ht h with ⟨hc, _⟩ | ⟨a, len, cap, m, n, D, Pl, hc, _, hl, hm, hmm, _, hx⟩
  · injection hc with hc
    subst hc
    exact ⟨[], ⟨none, 0, rfl, Nat.zero_le _, .inl rfl⟩, by simp⟩
  · injection hc with hc
    subst hc
    rw [hsz] at hx
    have hle : len ≤ m := by rw [hmm]; split <;> omega
    obtain ⟨X, hX⟩ := choose_lt (α := α) (n := len) (p := fun i x => (∀ j, j < sz → W.cell? (a.add (i * sz + j)) = some (cells x j)) ∧ good x) (fun i hi => by
      obtain ⟨cs', h1, h2⟩ := hx i (by omega)
      obtain ⟨_, hlen, hcell⟩ := World.cells?_some h1
      obtain ⟨x, hx1, hx2⟩ := conv n cs' _ hlen h2
      refine ⟨x, fun j hj => ?_, hx2⟩
      have h3 := hcell j hj
      rw [hx1 j hj] at h3
      have hadd : (a.add (i * sz)).add j = a.add (i * sz + j) ∨ W.cell? ((a.add (i * sz)).add j) = W.cell? (a.add (i * sz + j)) := by
        unfold Addr.add
        by_cases e1 : i * sz = 0
        · rw [if_pos e1, e1, Nat.zero_add]; exact .inl rfl
        · rw [if_neg e1]
          by_cases e2 : j = 0
          · rw [if_pos e2, e2, Nat.add_zero, if_neg e1]; exact .inl rfl
          · rw [if_neg e2, if_neg (by omega), Nat.add_assoc]; exact .inl rfl
      rcases hadd with hadd | hadd
      · rw [← hadd]; exact h3
      · rw [← hadd]; exact h3)
    refine ⟨(List.range len).map X, ⟨some a, cap, by simp, by simp; unfold maxLen at hm; omega, ?_⟩, ?_⟩
    · by_cases hz : len = 0
      · left
        subst hz
        rfl
      · right
        have hc0 := (hX 0 (by omega)).1 0 h0
        rw [Nat.zero_mul, Nat.zero_add] at hc0
        obtain ⟨b, off, spot⟩ := a
        have hsp : spot = none := by simpa [Addr.add] using World.cell?_spot hc0
        subst hsp
        refine ⟨b, off, rfl, ?_, fun j x hj i hi => ?_⟩
        · have := World.block_lt_of_cell? W _ hc0
          simpa [Addr.add] using this
        · have hjl : j < len := by
            have := (List.getElem?_eq_some_iff.1 hj).1
            simpa using this
          obtain rfl : X j = x := by
            rw [List.getElem?_map, List.getElem?_range hjl] at hj
            simpa using hj
          have h4 := (hX j hjl).1 i hi
          unfold Addr.add at h4
          by_cases e0 : j * sz + i = 0
          · rw [if_pos e0] at h4
            rw [Nat.add_assoc, e0]
            exact h4
          · rw [if_neg e0] at h4
            rw [Nat.add_assoc]
            exact h4
    · intro x hx
      obtain ⟨i, hi, rfl⟩ := List.mem_map.1 hx
      exact (hX i (by simpa using hi)).2

theorem str_of_trod {n : Nat} {c : Value} {y : DataW H × List MemPlace} (h : DataW.trod enc Tryz.prog W 0 spare held n 9 [c] = some y) : ∃ s : ByteArray, c = .string s ∧ s.size ≤ 9223372036854775807 := by
  obtain ⟨s, hc, _, hs⟩ := DataW.trod_string Tryz.underlying9 h
  injection hc with hc
  exact ⟨s, hc, hs⟩
theorem int_of_trod {n : Nat} {c : Value} {y : DataW H × List MemPlace} (h : DataW.trod enc Tryz.prog W 0 spare held n 3 [c] = some y) : ∃ k : Int, c = .int .i64 k := by
  obtain ⟨k, hc, _, _⟩ := DataW.trod_int Tryz.underlying3 h
  injection hc with hc
  exact ⟨k, hc⟩

theorem exp_of_trod (n : Nat) (cs : List Value) (z : DataW H × List MemPlace) (hl : cs.length = 2) (h : DataW.trod enc Tryz.prog W 0 spare held n 128 cs = some z) : ∃ x : Exp, (∀ i, i < 2 → cs[i]? = some (Exp.cell x i)) ∧ x.name.size ≤ 9223372036854775807 := by
  obtain ⟨xs, m, _, _, _, hlen, hf⟩ := DataW.trod_struct Tryz.underlying128 h
  obtain ⟨x0, x1, rfl⟩ := list2 hlen
  obtain ⟨c0, c1, rfl⟩ := list2 hl
  obtain ⟨s, rfl, hs⟩ := str_of_trod (hf 0 _ rfl)
  obtain ⟨k, rfl⟩ := int_of_trod (hf 1 _ rfl)
  refine ⟨⟨s, k⟩, fun i hi => ?_, hs⟩
  have : i = 0 ∨ i = 1 := by omega
  rcases this with rfl | rfl <;> rfl
theorem imp_of_trod (n : Nat) (cs : List Value) (z : DataW H × List MemPlace) (hl : cs.length = 4) (h : DataW.trod enc Tryz.prog W 0 spare held n 100 cs = some z) : ∃ x : Imp, (∀ i, i < 4 → cs[i]? = some (Imp.cell x i)) ∧ x.fits := by
  obtain ⟨xs, m, _, _, _, hlen, hf⟩ := DataW.trod_struct Tryz.underlying100 h
  obtain ⟨x0, x1, x2, x3, rfl⟩ := list4 hlen
  obtain ⟨c0, c1, c2, c3, rfl⟩ := list4 hl
  obtain ⟨s, rfl, hs⟩ := str_of_trod (hf 0 _ rfl)
  obtain ⟨t, rfl, ht⟩ := str_of_trod (hf 1 _ rfl)
  obtain ⟨k, rfl⟩ := int_of_trod (hf 2 _ rfl)
  obtain ⟨j, rfl⟩ := int_of_trod (hf 3 _ rfl)
  refine ⟨⟨s, t, k, j⟩, fun i hi => ?_, ⟨hs, ht⟩⟩
  have : i = 0 ∨ i = 1 ∨ i = 2 ∨ i = 3 := by omega
  rcases this with rfl | rfl | rfl | rfl <;> rfl
theorem pat_of_trod (n : Nat) (cs : List Value) (z : DataW H × List MemPlace) (hl : cs.length = 4) (h : DataW.trod enc Tryz.prog W 0 spare held n 102 cs = some z) : ∃ x : Pat, (∀ i, i < 4 → cs[i]? = some (Pat.cell x i)) ∧ True := by
  obtain ⟨xs, m, _, _, _, hlen, hf⟩ := DataW.trod_struct Tryz.underlying102 h
  obtain ⟨x0, x1, x2, x3, rfl⟩ := list4 hlen
  obtain ⟨c0, c1, c2, c3, rfl⟩ := list4 hl
  obtain ⟨a, rfl⟩ := int_of_trod (hf 0 _ rfl)
  obtain ⟨b, rfl⟩ := int_of_trod (hf 1 _ rfl)
  obtain ⟨k, rfl⟩ := int_of_trod (hf 2 _ rfl)
  obtain ⟨j, rfl⟩ := int_of_trod (hf 3 _ rfl)
  refine ⟨⟨a, b, k, j⟩, fun i hi => ?_, trivial⟩
  have : i = 0 ∨ i = 1 ∨ i = 2 ∨ i = 3 := by omega
  rcases this with rfl | rfl | rfl | rfl <;> rfl

theorem open_patch {v : Value} {d : DataW H} {ps : List MemPlace} {base : Nat} (hv : Value.okWide Tryz.prog W .any base 102 v) (h : DataW.Trod enc Tryz.prog W 0 spare held 102 v d ps) : ∃ p : Pat, v = .agg #[.int .i64 p.kind, .int .i64 p.pos, .int .i64 p.sym, .int .i64 p.add] := by
  obtain ⟨cs, rfl, hcs⟩ := okWide_struct Tryz.underlying102 hv
  obtain ⟨fuel, hf⟩ := h
  obtain ⟨xs, m, _, _, hl, hlen, hf⟩ := DataW.trod_struct Tryz.underlying102 hf
  have hc4 : Tryz.prog.cellsOf 102 = 4 := by kernel_rfl
  obtain ⟨x0, x1, x2, x3, rfl⟩ := list4 hlen
  rw [hc4] at hl
  obtain ⟨c0, c1, c2, c3, hcl⟩ := list4 hl
  have hcs' : cs.toList = [c0, c1, c2, c3] := hcl
  have hcA : cs = #[c0, c1, c2, c3] := by rw [← Array.toArray_toList (xs := cs), hcs']
  subst hcA
  have f0 := hf 0 _ rfl
  have f1 := hf 1 _ rfl
  have f2 := hf 2 _ rfl
  have f3 := hf 3 _ rfl
  obtain ⟨a, rfl⟩ := int_of_trod f0
  obtain ⟨b, rfl⟩ := int_of_trod f1
  obtain ⟨c, rfl⟩ := int_of_trod f2
  obtain ⟨e, rfl⟩ := int_of_trod f3
  exact ⟨⟨a, b, c, e⟩, rfl⟩
end

end Go.Proofs.YthmohjgdcjafkaeGreat

/- A module that came in. -/
namespace Go.Proofs.YthmohjgdcjafkaeGreat
open Go.ChangeShapes Go.WideShapes Go.ChangeAt Go.RowKit Go.PlainAid Go.Deep

set_option maxRecDepth 100000

section
variable {H : Type} {enc : TypeId × Value → H} {W : World} {spare : Nat → Bool} {held : Bool}

theorem open_module {v : Value} {d : DataW H} {ps : List MemPlace} {base : Nat} (hv : Value.okWide Tryz.prog W .any base 31 v) (h : DataW.Trod enc Tryz.prog W 0 spare held 31 v d ps) : ∃ M, IsMod W.heap.size W v M ∧ M.fits := by
  obtain ⟨cs, rfl, hcs⟩ := okWide_struct Tryz.underlying31 hv
  obtain ⟨fuel, hf⟩ := h
  obtain ⟨xs, m, _, _, hl, hlen, hf⟩ := DataW.trod_struct Tryz.underlying31 hf
  have hc7 : Tryz.prog.cellsOf 31 = 7 := by kernel_rfl
  obtain ⟨x0, x1, x2, x3, x4, x5, x6, rfl⟩ := list7 hlen
  rw [hc7] at hl
  obtain ⟨c0, c1, c2, c3, c4, c5, c6, hcl⟩ := list7 hl
  have hcs' : cs.toList = [c0, c1, c2, c3, c4, c5, c6] := hcl
  have hcA : cs = #[c0, c1, c2, c3, c4, c5, c6] := by rw [← Array.toArray_toList (xs := cs), hcs']
  subst hcA
  have f0 := hf 0 _ rfl
  have f1 := hf 1 _ rfl
  have f2 := hf 2 _ rfl
  have f3 := hf 3 _ rfl
  have f4 := hf 4 _ rfl
  have f5 := hf 5 _ rfl
  have f6 := hf 6 _ rfl
  obtain ⟨N, rfl, hN⟩ := str_of_trod f0
  obtain ⟨a, rfl⟩ := int_of_trod f1
  obtain ⟨b, rfl⟩ := int_of_trod f2
  obtain ⟨T, rfl, hT⟩ := str_of_trod f3
  have _ : Inhabited Exp := ⟨⟨⟨#[]⟩, 0⟩⟩
  have _ : Inhabited Imp := ⟨⟨⟨#[]⟩, ⟨#[]⟩, 0, 0⟩⟩
  have _ : Inhabited Pat := ⟨⟨0, 0, 0, 0⟩⟩
  obtain ⟨es, hE, gE⟩ := row_of_trod (cells := Exp.cell) Tryz.underlying22 (sz := 2) (by kernel_rfl) (by decide) exp_of_trod f4
  obtain ⟨is, hI, gI⟩ := row_of_trod (cells := Imp.cell) Tryz.underlying28 (sz := 4) (by kernel_rfl) (by decide) imp_of_trod f5
  obtain ⟨ps, hP, _⟩ := row_of_trod (cells := Pat.cell) Tryz.underlying29 (sz := 4) (by kernel_rfl) (by decide) pat_of_trod f6
  exact ⟨⟨N, a, b, T, es, is, ps⟩, ⟨c4, c5, c6, rfl, hE, hI, hP⟩, hN, hT, gE, gI⟩
end

end Go.Proofs.YthmohjgdcjafkaeGreat
