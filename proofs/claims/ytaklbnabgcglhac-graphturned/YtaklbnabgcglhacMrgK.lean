/- Texts that are laid together. -/
import Derived.Test.YtaklbnabgcglhacMrgJ
import Derived.Test.YtaklbnabgcglhacMrgI
import Derived.Sort.KeysCollected
import Derived.Deep.LoopGhost

/- Sorted names in memory. -/
namespace Go.Proofs.Ytaklbnabgcglhac
open Go.RowKit Go.PlainAid Go.Maps

set_option maxRecDepth 100000

def strCell (x : ByteArray) (_ : Nat) : Value := .string x
def strC (x : ByteArray) : List Value := [.string x]
theorem strC_at (x : ByteArray) (i : Nat) (hi : i < 1) : (strC x)[i]? = some (strCell x i) := by
  obtain rfl : i = 0 := by omega
  rfl
theorem flat_str : ∀ l : List (List UInt8), l.map encStr = (l.map fun x => (⟨x.toArray⟩ : ByteArray)).flatMap strC
  | [] => rfl
  | x :: l => by rw [List.map_cons, List.map_cons, List.flatMap_cons, ← flat_str l]; rfl

theorem merge_rising {ss : List (List UInt8)} (hn : ss.Nodup) : Rising ((ss.mergeSort leB).map fun x => (⟨x.toArray⟩ : ByteArray)) := by
  have tr : ∀ a b c : List UInt8, leB a b = true → leB b c = true → leB a c = true := fun a b c h1 h2 => by simp only [leB, decide_eq_true_eq] at *; exact List.le_trans h1 h2
  have to : ∀ a b : List UInt8, (leB a b || leB b a) = true := fun a b => by simp only [leB, Bool.or_eq_true, decide_eq_true_eq]; exact List.le_total a b
  have h1 := List.pairwise_mergeSort tr to ss
  have h2 : (ss.mergeSort leB).Nodup := (List.mergeSort_perm ss leB).nodup_iff.2 hn
  refine List.pairwise_map.2 ((h1.and h2).imp fun {a b} ⟨h3, h4⟩ => ?_)
  show a < b
  simp only [leB, decide_eq_true_eq] at h3
  exact Classical.byContradiction fun h5 => h4 (List.le_antisymm h3 (List.not_lt.1 h5))

theorem sorted_names {W W0 : World} {base b nn : Nat} {v : Value} {ss : List (List UInt8)} {D : DataW Unit} {R : Value → Option (DataW Unit × List MemPlace)} {names : List ByteArray} (hown : W0.ownsMap Try.prog 9 R b nn D) (hD : HasNames D names) (hn : names.Nodup) (hl : names.length ≤ 255)
    (hp : ss.Perm (strKeys D)) (hr : W.ownsRow base 9 1 v ss.length ((ss.mergeSort (fun x y => decide (x ≤ y))).map encStr)) : ∃ rs : List ByteArray, RowOf 1 strCell W.heap.size W v rs ∧ Rising rs ∧ ∀ x, x ∈ rs ↔ x ∈ names := by
  have hC : Collected D (fun _ => false) (names.map fun x => x.data.toList) := by
    refine ⟨?_, fun x => ?_⟩
    · exact List.pairwise_map.2 (hn.imp fun h e => h (bytes_ext e))
    · have h1 := hD ⟨x.toArray⟩
      have h2 : (⟨x.toArray⟩ : ByteArray).data.toList = x := by simp
      rw [h2] at h1
      rw [h1, any_mem]
      constructor
      · intro h
        obtain ⟨y, hy, rfl⟩ := List.mem_map.1 h
        exact ⟨by simpa using hy, rfl⟩
      · rintro ⟨h, _⟩
        exact List.mem_map.2 ⟨_, h, h2⟩
  have hq := hC.perm hown lawS Try.underlying9 (fun _ => rfl)
  have hsn : ss.Nodup := (hp.trans hq.symm).nodup_iff.2 hC.1
  have hmem : ∀ x, x ∈ ss ↔ x ∈ names.map fun x => x.data.toList := fun x => (hp.trans hq.symm).mem_iff
  have hlen : ss.length = names.length := by rw [(hp.trans hq.symm).length_eq, List.length_map]
  refine ⟨(ss.mergeSort leB).map fun x => (⟨x.toArray⟩ : ByteArray), ?_, merge_rising hsn, fun x => ?_⟩
  · have e1 : ss.length = ((ss.mergeSort leB).map fun x => (⟨x.toArray⟩ : ByteArray)).length := by rw [List.length_map, List.length_mergeSort]
    rw [flat_str] at hr
    have hr2 : W.ownsRow base 9 1 v ((ss.mergeSort leB).map fun x => (⟨x.toArray⟩ : ByteArray)).length (((ss.mergeSort leB).map fun x => (⟨x.toArray⟩ : ByteArray)).flatMap strC) := by rw [← e1]; exact hr
    exact own_rows (C := strC) (cells := strCell) (sz := 1) (fun _ => rfl) strC_at hr2 (by rw [← e1, hlen]; omega)
  · constructor
    · intro h
      obtain ⟨y, hy, rfl⟩ := List.mem_map.1 h
      have := (hmem y).1 ((List.mergeSort_perm ss leB).mem_iff.1 hy)
      obtain ⟨z, hz, rfl⟩ := List.mem_map.1 this
      simpa using hz
    · intro h
      refine List.mem_map.2 ⟨x.data.toList, ?_, by simp⟩
      exact (List.mergeSort_perm ss leB).mem_iff.2 ((hmem _).2 (List.mem_map_of_mem h))

end Go.Proofs.Ytaklbnabgcglhac

/- What graph.comeTo is told, and its cases. -/
namespace Go.Proofs.Ytaklbnabgcglhac
open Go.RowKit Go.PlainAid Go.Maps Go.WideMaps

set_option maxRecDepth 100000

def comeErr (L : List Plc) (name : ByteArray) : Int := if chkGraph L ≠ 0 then chkGraph L else if (L.any fun p => p.mod.name == name) = true then 0 else 5
def Comes (nx : Mod → Mod → Bool) (Ms : List Mod) (f : Nat) (ss : List ByteArray) : Prop := Rising ss ∧ ∀ x, x ∈ ss ↔ ∃ k, Via (Next nx Ms) f k ∧ nameAt Ms k = x
def ComeRes (nx : Mod → Mod → Bool) (L : List Plc) (name : ByteArray) (ss : List ByteArray) : Prop :=
  (comeErr L name ≠ 0 ∧ ss = []) ∨ (comeErr L name = 0 ∧ ∃ f, f < L.length ∧ nameAt (L.map (·.mod)) f = name ∧ Comes nx (L.map (·.mod)) f ss)

theorem come_cases (nx : Mod → Mod → Bool) (l : List PV) (name : ByteArray) :
    (chkGraph (l.map PV.plc) ≠ 0 ∧ comeErr (l.map PV.plc) name = chkGraph (l.map PV.plc) ∧ ComeRes nx (l.map PV.plc) name []) ∨
    (chkGraph (l.map PV.plc) = 0 ∧ ixFrom (fun x : PV => x.mod.name == name) 0 l = -1 ∧ comeErr (l.map PV.plc) name = 5 ∧ ComeRes nx (l.map PV.plc) name []) ∨
    (chkGraph (l.map PV.plc) = 0 ∧ ∃ f : Nat, f < l.length ∧ ixFrom (fun x : PV => x.mod.name == name) 0 l = (f : Int) ∧ comeErr (l.map PV.plc) name = 0 ∧ ∀ ss, Comes nx (l.map (·.mod)) f ss → ComeRes nx (l.map PV.plc) name ss) := by
  have hany : ((l.map PV.plc).any fun p => p.mod.name == name) = l.any fun x : PV => x.mod.name == name := by rw [List.any_map]; rfl
  have hmm : (l.map PV.plc).map (·.mod) = l.map (·.mod) := by rw [List.map_map]; rfl
  by_cases h0 : chkGraph (l.map PV.plc) = 0
  · rcases ix_find (fun x : PV => x.mod.name == name) l 0 with ⟨h1, h2⟩ | ⟨j, x, h1, h2, h3⟩
    · have h4 : (l.any fun x : PV => x.mod.name == name) = false := by
        rw [← Bool.not_eq_true, List.any_eq_true]
        rintro ⟨y, hy, he⟩
        exact List.find?_eq_none.1 h1 y hy he
      have h5 : comeErr (l.map PV.plc) name = 5 := by
        unfold comeErr
        rw [if_neg (by omega), hany, h4]; rfl
      exact .inr (.inl ⟨h0, h2, h5, .inl ⟨by omega, rfl⟩⟩)
    · have h6 : (x.mod.name == name) = true := by simpa using List.find?_some h1
      have h4 : (l.any fun x : PV => x.mod.name == name) = true := List.any_eq_true.2 ⟨x, List.mem_of_getElem? h2, h6⟩
      have h5 : comeErr (l.map PV.plc) name = 0 := by
        unfold comeErr
        rw [if_neg (by omega), hany, h4]; rfl
      have hj : j < l.length := (List.getElem?_eq_some_iff.1 h2).1
      refine .inr (.inr ⟨h0, j, hj, by rw [h3, Nat.zero_add], h5, fun ss hs => .inr ⟨h5, j, by simpa using hj, ?_, by rw [hmm]; exact hs⟩⟩)
      rw [hmm, nameAt_some (x := x.mod) (by rw [List.getElem?_map, h2]; rfl)]
      exact (Go.MapKept.bytes_beq _ _).1 h6
  · have h5 : comeErr (l.map PV.plc) name = chkGraph (l.map PV.plc) := by
      unfold comeErr
      rw [if_pos h0]
    exact .inl ⟨h0, h5, .inl ⟨by rw [h5]; exact h0, rfl⟩⟩

set_option maxHeartbeats 1000000 in
theorem come1_any (B : Nat) (name : ByteArray) (x : PV) (w : World) (hlt : B < w.heap.size) (hB : w.cell? ⟨B, 0, none⟩ = some (.string name)) (hat : PlcAt w.heap.size w x) :
    Calls Try.prog 48 #[x.val, .pointer (some ⟨B, 0, none⟩)] w fun e w' => e = .returned (.bool (x.mod.name == name)) ∧ Below w.heap.size w w' := by
  rw [← toList_beq2]
  obtain ⟨⟨pe, ke, e4, _⟩, ⟨pi, ki, e5, _⟩, ⟨pp, kp, e6, _⟩⟩ := hat
  obtain ⟨⟨N, ma, mi, T, es, is, ps⟩, ve, vi, vp, fi⟩ := x
  dsimp only at e4 e5 e6
  subst e4 e5 e6
  dsimp only [PV.val]
  generalize es.length = le at *
  generalize is.length = li at *
  generalize ps.length = lp at *
  go_enter Try.func48, Try.ntmps48
  go_wp2
  go_ret
  exact ⟨rfl, (Below.refl _ _).alloc (Nat.le_refl _) _⟩

/-- What the walk is told of those that are placed. -/
structure Told (nx : Mod → Mod → Bool) (l : List PV) (E : Nat → Nat → Prop) (nA : Nat → ByteArray) : Prop where
  edge : ∀ (i k : Nat) (x y : PV), l[i]? = some x → l[k]? = some y → (E i k ↔ nx x.mod y.mod = true)
  lt : ∀ i k, E i k → k < l.length
  name : ∀ (k : Nat) (x : PV), l[k]? = some x → nA k = x.mod.name
  met : ∀ (met : List Nat), (∀ k ∈ met, k < l.length) → ∀ i, i < l.length → (((met.map nA).any fun y => y == nA i) = true ↔ i ∈ met)
  nodup : ∀ met : List Nat, (∀ k ∈ met, k < l.length) → met.Nodup → (met.map nA).Nodup
theorem told_of (nx : Mod → Mod → Bool) (l : List PV) (hd : (l.map (·.mod.name)).Nodup) : Told nx l (Next nx (l.map (·.mod))) (nameAt (l.map (·.mod))) := by
  have hd2 : ((l.map (·.mod)).map (·.name)).Nodup := by rw [List.map_map]; exact hd
  have at_ : ∀ (k : Nat) (x : PV), l[k]? = some x → (l.map (·.mod))[k]? = some x.mod := fun k x h => by rw [List.getElem?_map, h]; rfl
  refine ⟨fun i k x y hx hy => Next.iff (at_ i x hx) (at_ k y hy), fun i k h => by simpa using h.lt.2, fun k x hx => nameAt_some (at_ k x hx), fun met hm i hi => any_name hd2 (by simpa using hm) (by simpa using hi), fun met hm hn => ?_⟩
  exact List.pairwise_map.2 (hn.imp_of_mem fun {a b} ha hb hne e => hne (nameAt_inj hd2 (by simpa using hm a ha) (by simpa using hm b hb) e))

theorem map_below {W W' : World} {t : TypeId} {R : Value → Option (DataW Unit × List MemPlace)} {b n m : Nat} {D : DataW Unit} (h : W.ownsMap Try.prog t R b n D) (hb : Below m W W') (hlt : b < m) : W'.ownsMap Try.prog t R b n D := by
  obtain ⟨es, clock, h1, Ft, hs, hD⟩ := h
  exact ⟨es, clock, (hb.block b hlt).trans h1, Ft, hs, hD⟩

end Go.Proofs.Ytaklbnabgcglhac

/- The contract of graph.comeTo. -/
namespace Go.Proofs.Ytaklbnabgcglhac
open Go.RowKit Go.PlainAid Go.Maps Go.WideMaps

set_option maxRecDepth 100000

set_option maxHeartbeats 8000000 in
theorem comeTo_any (nx : Mod → Mod → Bool) (K : FuncId) (hK : ∀ w x y, Sem.run Try.prog (callFunc K #[x, y]) w = .ok (.enter K #[x, y]) w) (l : List PV) (v : Value) (name : ByteArray) (w : World) (hrow : IsPlcs w.heap.size w v l) (hfit : ∀ x ∈ l, x.mod.fits)
    (hp : ∀ x ∈ l, ∀ y ∈ l, ∀ W, Below w.heap.size w W → Calls Try.prog K #[x.modV, y.modV] W fun e W' => e = .returned (.bool (nx x.mod y.mod)) ∧ Below W.heap.size W W') :
    Calls Try.prog 26 #[v, .string name, .func (.func K) #[] #[]] w fun e w' => (∃ r ss, e = .returned (.tuple #[r, .int .i64 (comeErr (l.map PV.plc) name)]) ∧ RowOf 1 strCell w'.heap.size w' r ss ∧ ComeRes nx (l.map PV.plc) name ss) ∧ Below w.heap.size w w' := by
  have HW : Hid (∀ W, Below w.heap.size w W → Calls Try.prog 30 #[v] W fun e w' => e = .returned (.int .i64 (chkGraph (l.map PV.plc))) ∧ Below W.heap.size W w') := fun W hb => graphWrong_any l v W ((hrow.below hb).more hb.size) hfit
  have HI : Hid (∀ W B, Below w.heap.size w W → B < W.heap.size → W.cell? ⟨B, 0, none⟩ = some (.string name) → Calls Try.prog 47 #[v, .func (.func 48) #[] #[.pointer (some ⟨B, 0, none⟩)]] W fun e w' => e = .returned (.int .i64 (ixFrom (fun x : PV => x.mod.name == name) 0 l)) ∧ Below W.heap.size W w') := by
    intro W B hb hlt hB
    exact ixPlc_any l v 48 (.pointer (some ⟨B, 0, none⟩)) (fun w x => enters_of Try.func48 (by kernel_rfl) rfl _ w) _ W ((hrow.1.below hb).more hb.size) (fun x hx W' hb' => come1_any B name x W' (Nat.lt_of_lt_of_le hlt hb'.size) ((hb'.cell (p := ⟨B, 0, none⟩) hlt).trans hB) ((((((hrow.2 x hx).below hb).more hb.size)).below hb').more hb'.size))
  have HN : Hid (∀ (i k : Nat) (x y : PV), l[i]? = some x → l[k]? = some y → ∀ W, Below w.heap.size w W → Calls Try.prog K #[x.modV, y.modV] W fun e W' => e = .returned (.bool (nx x.mod y.mod)) ∧ Below W.heap.size W W') := fun i k x y hx hy => hp x (List.mem_of_getElem? hx) y (List.mem_of_getElem? hy)
  have HT : Hid (chkGraph (l.map PV.plc) = 0 → l.length ≤ 8 ∧ Told nx l (Next nx (l.map (·.mod))) (nameAt (l.map (·.mod)))) := by
    intro h0
    have h1 := chkGraph_zero.1 h0
    refine ⟨by simpa using h1.1, told_of nx l ?_⟩
    have := h1.2.2
    rw [List.map_map] at this
    exact this
  have HCO : Hid (∀ f ss, Comes nx (l.map (·.mod)) f ss ↔ Rising ss ∧ ∀ x, x ∈ ss ↔ ∃ k, Via (Next nx (l.map (·.mod))) f k ∧ nameAt (l.map (·.mod)) k = x) := fun f ss => Iff.rfl
  have hat := hrow.2
  have key := come_cases nx l name
  obtain ⟨⟨a, cap, rfl, hmax, hrow⟩, _⟩ := hrow
  generalize comeErr (l.map PV.plc) name = R at *
  generalize ComeRes nx (l.map PV.plc) name = CR at *
  generalize chkGraph (l.map PV.plc) = cg at *
  generalize ixFrom (fun x : PV => x.mod.name == name) 0 l = ix at *
  generalize Comes nx (l.map (·.mod)) = CM at *
  generalize Next nx (l.map (·.mod)) = E at *
  generalize nameAt (l.map (·.mod)) = nA at *
  clear hp
  have hmm := @run_makeMap Try.prog
  go_enter Try.func26, Try.ntmps26
  go_wp2_with fail
  have HB1 : Below w.heap.size w (w.alloc (.cells #[.string name] 9)) := (Below.refl _ _).alloc (Nat.le_refl _) _
  refine (HW.out _ HB1).mono ?_
  rintro e w2 ⟨rfl, b2⟩
  have HBOX : Hid (w.heap.size < w2.heap.size ∧ w2.cell? ⟨w.heap.size, 0, none⟩ = some (.string name)) := by
    refine ⟨Nat.lt_of_lt_of_le (by simp) b2.size, ?_⟩
    exact (b2.cell (p := ⟨w.heap.size, 0, none⟩) (by simp)).trans ((CellsAt.new w 9 #[.string name]).cell 0)
  have B2 := HB1.trans (b2.mono HB1.size)
  clear HB1 b2 HW
  rcases key with ⟨h0, rfl, hC⟩ | ⟨rfl, rfl, rfl, hC⟩ | ⟨rfl, f, hf, rfl, rfl, hC⟩
  · have h0' : (R != 0) = true := by simpa using h0
    have HC : Hid (CR []) := hC
    clear hrow hat h0 hC HN HT HCO
    go_wp2
    go_ret2
    exact ⟨⟨_, [], rfl, ⟨none, 0, rfl, by simp, .inl rfl⟩, HC.out⟩, B2⟩
  · have HC : Hid (CR []) := hC
    clear hrow hat hC HN HT HCO
    go_wp2_with fail
    refine (HI.out w2 w.heap.size B2 HBOX.out.1 HBOX.out.2).mono ?_
    rintro e w3 ⟨rfl, b3⟩
    have B3 := B2.trans (b3.mono B2.size)
    clear HI HBOX b3
    go_wp2
    go_ret2
    exact ⟨⟨_, [], rfl, ⟨none, 0, rfl, by simp, .inl rfl⟩, HC.out⟩, B3⟩
  · have HC : Hid (∀ ss, CM f ss → CR ss) := hC
    obtain ⟨h8, hT⟩ := HT.out (by first | rfl | trivial)
    have HTT : Hid (Told nx l E nA) := hT
    clear hC HT hT
    go_wp2_with fail
    refine (HI.out w2 w.heap.size B2 HBOX.out.1 HBOX.out.2).mono ?_
    rintro e w3 ⟨rfl, b3⟩
    have B3 := B2.trans (b3.mono B2.size)
    clear HI HBOX b3 B2
    go_wp2_with fail
    go_loopg [11] (2 * l.length + 1) (fun n q wr => ∃ (met work : List Nat) (D : DataW Unit), Hid ((n = 2 * (l.length - met.length) + work.length ∧ n ≤ 2 * l.length + 1) ∧ Come E l.length f met work ∧ HasNames D (met.map nA)) ∧ wr.ownsMap Try.prog 9 (plainElem Try.prog 3) w3.heap.size met.length D ∧ QRow wr (w3.heap.size + 1) q work ∧ Below w3.heap.size w3 wr)
    case atStart =>
      refine ⟨[], [f], .map [], ⟨by simp, Come.start E _ f, HasNames.none⟩, (World.ownsMap_made w3 Try.prog 9 _).kept (World.grownBy_alloc _ _ none) (by simp), ?_, ((Below.refl _ _).alloc (Nat.le_refl _) _).alloc (by simp) _⟩
      have := CellsAt.new (w3.alloc (.map #[] 0)) 3 #[.int .i64 (f : Int)]
      rw [World.size_alloc] at this
      refine ⟨w3.heap.size + 1, 0, 1, _, by simp, Nat.le_refl _, this, by simp, by simp, by omega, ?_⟩
      intro j x hj
      cases j with
      | zero => simp at hj; subst hj; rfl
      | succ j => simp at hj
    case round =>
      obtain ⟨met, work, D, HX, hown, hq, B⟩ := hrel
      have BW : Below w.heap.size w wr := B3.trans (B.mono B3.size)
      obtain ⟨g, o, cp, rfl, hle, hcp, hg⟩ := hq.form
      cases work with
      | nil =>
        simp only [List.length_nil] at hq hle
        have hmet : met.length ≤ 8 := by have := HX.out.2.1.le; omega
        simp only [List.length_nil]
        clear hrow hat
        go_wp2_with fail
        refine (keysOf_any (some w3.heap.size) wr).mono ?_
        rintro e w4 ⟨rfl, rfl⟩
        go_wp2_with fail
        refine (sortedKeys_any w3.heap.size met.length D _ wr hown (by have := hown.size_le; unfold maxLen; omega) (by have := hown.size_le; omega)).mono ?_
        rintro e w5 ⟨v5, ss, rfl, hperm, hrow5, _, b5⟩
        obtain ⟨rs, hR1, hR2, hR3⟩ := sorted_names hown HX.out.2.2 (HTT.out.nodup met HX.out.2.1.lt HX.out.2.1.nodup) (by rw [List.length_map]; omega) hperm hrow5
        have HCR : Hid (CR rs) := HC.out rs ((HCO.out f rs).2 ⟨hR2, fun x => by
          rw [hR3, List.mem_map]
          constructor
          · rintro ⟨k, hk, rfl⟩; exact ⟨k, (HX.out.2.1.all k).1 hk, rfl⟩
          · rintro ⟨k, hk, rfl⟩; exact ⟨k, (HX.out.2.1.all k).2 hk, rfl⟩⟩)
        have BZ : Below w.heap.size w w5 := (BW.alloc BW.size _).trans (b5.mono (BW.alloc BW.size _).size)
        have HR1 : Hid (RowOf 1 strCell w5.heap.size w5 v5 rs) := hR1
        clear hperm hrow5 hR1 hR2 hR3 b5 BW
        go_wp2
        go_ret2
        exact ⟨⟨_, rs, rfl, HR1.out, HCR.out⟩, BZ⟩
      | cons j rest =>
        have hj : j < l.length := by
          rcases HX.out.2.1.wk j (by simp) with h | h
          · omega
          · exact HX.out.2.1.lt j h
        obtain ⟨x, hx⟩ : ∃ x, l[j]? = some x := ⟨_, List.getElem?_eq_getElem hj⟩
        rcases hrow with h | ⟨b, off, rfl, hbn, hcells⟩
        · subst h; simp at hj
        have HCL : Hid (∀ (W : World), Below w.heap.size w W → ∀ (j : Nat) (x : PV), l[j]? = some x → ∀ i, i < 8 → W.cell? ⟨b, off + j * 8 + i, none⟩ = some (PV.cell x i)) := fun W hb j x hx i hi => (hb.cell (p := ⟨b, off + j * 8 + i, none⟩) hbn).trans (hcells j x hx i hi)
        clear hcells
        obtain ⟨hc0, o2, ho2, hq2⟩ := hq.pop
        have HN2 : Hid (∀ (k : Nat) (y : PV), l[k]? = some y → ∀ W, Below w.heap.size w W → Calls Try.prog K #[x.modV, y.modV] W fun e W' => e = .returned (.bool (nx x.mod y.mod)) ∧ Below W.heap.size W W') := fun k y hy => HN.out j k x y hx hy
        have HE2 : Hid (∀ (k : Nat) (y : PV), l[k]? = some y → (E j k ↔ nx x.mod y.mod = true)) := fun k y hy => HTT.out.edge j k x y hx hy
        have HX2 : Hid ((2 * (l.length - met.length) + rest.length < gk ∧ gk ≤ 2 * l.length + 1) ∧ ComeIn E l.length f j 0 met rest ∧ HasNames D (met.map nA)) := by
          have h1 := HX.out.1
          simp at h1
          exact ⟨⟨by omega, h1.2⟩, HX.out.2.1.pop, HX.out.2.2⟩
        obtain ⟨⟨pe, ke, e4, _⟩, ⟨pi, ki, e5, _⟩, ⟨pp, kp, e6, _⟩⟩ := hat x (List.mem_of_getElem? hx)
        have c0 := HCL.out wr BW j x hx 0 (by omega)
        have c1 := HCL.out wr BW j x hx 1 (by omega)
        have c2 := HCL.out wr BW j x hx 2 (by omega)
        have c3 := HCL.out wr BW j x hx 3 (by omega)
        have c4 := HCL.out wr BW j x hx 4 (by omega)
        have c5 := HCL.out wr BW j x hx 5 (by omega)
        have c6 := HCL.out wr BW j x hx 6 (by omega)
        clear hx HN HX
        obtain ⟨⟨N, ma, mi, T, es, is, ps⟩, ve, vi, vp, fi⟩ := x
        dsimp only at e4 e5 e6
        subst e4 e5 e6
        dsimp only [PV.cell] at c0 c1 c2 c3 c4 c5 c6
        dsimp only [PV.modV] at HN2
        rw [Nat.add_zero] at c0
        generalize es.length = le at *
        generalize is.length = li at *
        generalize ps.length = lp at *
        simp only [List.length_cons] at hle hq
        simp only [List.length_cons]
        clear hq
        go_wp2_with fail
        have HA0 : Hid (Below w3.heap.size w3 wr) := B
        go_loopw [11, 44] (fun q i wi => ∃ (k : Nat) (met2 work2 : List Nat) (D2 : DataW Unit), k ≤ l.length ∧ i = .int .i64 k ∧ Hid ((2 * (l.length - met2.length) + work2.length < gk ∧ gk ≤ 2 * l.length + 1) ∧ ComeIn E l.length f j k met2 work2 ∧ HasNames D2 (met2.map nA)) ∧ wi.ownsMap Try.prog 9 (plainElem Try.prog 3) w3.heap.size met2.length D2 ∧ QRow wi (w3.heap.size + 1) q work2 ∧ Hid (∀ g', q.ownBlock = some g' → g' ≠ wr.heap.size) ∧ CellsAt wi wr.heap.size 36 #[.string N, .int .i64 ma, .int .i64 mi, .string T, .slice pe le ke, .slice pi li ki, .slice pp lp kp] ∧ Below w3.heap.size w3 wi ∧ Hid (w3.heap.size < wr.heap.size)) (fun _ i _ => l.length - (intOf i).toNat)
        case atStart =>
          refine ⟨0, met, rest, D, Nat.zero_le _, rfl, HX2.out, hown.kept (World.grownBy_alloc _ _ none) (by simp), hq2.kept (World.grownBy_alloc _ _ none) (by simp), ?_, CellsAt.new _ _ _, B.alloc B.size _, ?_⟩
          · intro g' hg'
            have : g = g' := by simpa [Value.ownBlock] using hg'
            omega
          · exact hown.lt
        case round =>
          obtain ⟨k, met2, work2, D2, hk, rfl, HY, hown2, hqq, HNE, hCC, BI, HL⟩ := hrel
          have BIW : Below w.heap.size w wr := B3.trans (BI.mono B3.size)
          obtain ⟨g2, o3, cp2, rfl, hle2, hcp2, hg2⟩ := hqq.form
          clear hle hc0 c0 c1 c2 c3 c4 c5 c6 hq2 HX2 hown ho2 hg BW HA0
          by_cases hlt : k < l.length
          · obtain ⟨y, hy⟩ : ∃ y, l[k]? = some y := ⟨_, List.getElem?_eq_getElem hlt⟩
            have hn : y.mod.name.size ≤ 9223372036854775807 := (hfit y (List.mem_of_getElem? hy)).1
            have hkey : keyOf Try.prog 9 (.string y.mod.name) = some (.string y.mod.name.data.toList) := keyOf_string_mk Try.underlying9 hn
            have hhas := HY.out.2.2 y.mod.name
            have HIN : Hid (((met2.map nA).any fun z => z == y.mod.name) = true ↔ k ∈ met2) := by
              have := HTT.out.met met2 HY.out.2.1.lt k hlt
              rw [HTT.out.name k y hy] at this
              exact this
            have HPUT : Hid (∀ d, HasNames (D2.put (.string y.mod.name.data.toList) d) ((met2 ++ [k]).map nA)) := fun d => by
              rw [List.map_append, List.map_cons, List.map_nil, HTT.out.name k y hy]
              exact HY.out.2.2.put hown2.isMap y.mod.name d
            have HNC : Hid (∀ W, Below w.heap.size w W → Calls Try.prog K #[.agg #[.string N, .int .i64 ma, .int .i64 mi, .string T, .slice pe le ke, .slice pi li ki, .slice pp lp kp], y.modV] W fun e W' => e = .returned (.bool (nx ⟨N, ma, mi, T, es, is, ps⟩ y.mod)) ∧ Below W.heap.size W W') := HN2.out k y hy
            have HED : Hid (E j k ↔ nx ⟨N, ma, mi, T, es, is, ps⟩ y.mod = true) := HE2.out k y hy
            obtain ⟨⟨ye, je, e4, _⟩, ⟨yi, ji, e5, _⟩, ⟨yp, jp, e6, _⟩⟩ := hat y (List.mem_of_getElem? hy)
            have c0 := HCL.out wr BIW k y hy 0 (by omega)
            have c1 := HCL.out wr BIW k y hy 1 (by omega)
            have c2 := HCL.out wr BIW k y hy 2 (by omega)
            have c3 := HCL.out wr BIW k y hy 3 (by omega)
            have c4 := HCL.out wr BIW k y hy 4 (by omega)
            have c5 := HCL.out wr BIW k y hy 5 (by omega)
            have c6 := HCL.out wr BIW k y hy 6 (by omega)
            have c7 := HCL.out wr BIW k y hy 7 (by omega)
            have hC2 := hCC.kept (World.grownBy_alloc wr (.cells #[.string y.mod.name, .int .i64 y.mod.major, .int .i64 y.mod.minor, .string y.mod.text, y.ve, y.vi, y.vp, .int .i64 y.first] 38) none) (by simp)
            have m0 := hC2.cell 0
            have m1 := hC2.cell 1
            have m2 := hC2.cell 2
            have m3 := hC2.cell 3
            have m4 := hC2.cell 4
            have m5 := hC2.cell 5
            have m6 := hC2.cell 6
            simp at m0 m1 m2 m3 m4 m5 m6
            clear hy
            generalize nx ⟨N, ma, mi, T, es, is, ps⟩ y.mod = t at HNC HED
            obtain ⟨⟨N', ma', mi', T', es', is', ps'⟩, ve, vi, vp, fi'⟩ := y
            dsimp only at e4 e5 e6 hn hkey hhas HIN HPUT hC2 m0 m1 m2 m3 m4 m5 m6
            subst e4 e5 e6
            dsimp only [PV.cell] at c0 c1 c2 c3 c4 c5 c6 c7
            dsimp only [PV.modV] at HNC
            rw [Nat.add_zero] at c0
            generalize es'.length = le' at *
            generalize is'.length = li' at *
            generalize ps'.length = lp' at *
            generalize (met2.map nA).any (fun z => z == N') = TT at HIN hhas
            cases TT
            · go_wp2_with (first
                | (at_lookup; refine wpList_lookup_own_ok_int _ rfl _ _ 80 rfl 9 3 .i64 lawS Try.underlying80 Try.underlying3 (zeroI _) w3.heap.size met2.length D2 rfl (hown2.kept (World.grownBy_alloc _ _ none) (by simp)) _ _ rfl hkey ?_; intro c hat' hwc; clear hat' hwc))
              refine Calls.mono (HNC.out _ (BIW.alloc BIW.size _)) ?_
              rintro e wc ⟨rfl, bc⟩
              have hownc := map_below (hown2.kept (World.grownBy_alloc wr (.cells #[.string N', .int .i64 ma', .int .i64 mi', .string T', .slice ye le' je, .slice yi li' ji, .slice yp lp' jp, .int .i64 fi'] 38) none) (by simp)) bc (by have := hown2.lt; simp; omega)
              have hqc := (hqq.kept (World.grownBy_alloc wr (.cells #[.string N', .int .i64 ma', .int .i64 mi', .string T', .slice ye le' je, .slice yi li' ji, .slice yp lp' jp, .int .i64 fi'] 38) none) (by simp)).below bc (Nat.le_refl _)
              have hCc := hC2.below bc hC2.lt
              have cN : wc.cell? ⟨wr.heap.size, 0, none⟩ = some (.string N') := (bc.cell (p := ⟨wr.heap.size, 0, none⟩) (by simp)).trans ((CellsAt.new wr 38 #[.string N', .int .i64 ma', .int .i64 mi', .string T', .slice ye le' je, .slice yi li' ji, .slice yp lp' jp, .int .i64 fi']).cell 0)
              have BC : Below w3.heap.size w3 wc := (BI.alloc BI.size _).trans (bc.mono (BI.alloc BI.size _).size)
              have HSZ : Hid (wr.heap.size < wc.heap.size) := Nat.lt_of_lt_of_le (by simp) bc.size
              clear c0 c1 c2 c3 c4 c5 c6 c7 m0 m1 m2 m3 m4 m5 m6 hC2 bc HNC hat BIW
              cases t
              · go_wp2
                exact ⟨⟨k + 1, met2, work2, D2, by omega, by go_num, ⟨HY.out.1, HY.out.2.1.skip (.inr (fun he => by simpa using HED.out.1 he)), HY.out.2.2⟩, hownc, hqc, HNE.out, hCc, BC, HL.out⟩, by simp [intOf]; omega⟩
              · have hm2 : met2.length ≤ 8 := by have := HY.out.2.1.le; omega
                have hw2 : work2.length ≤ 17 := by have := HY.out.1; omega
                have HNEM : Hid (∀ g', Value.ownBlock (.slice (some ⟨g2, o3, none⟩) work2.length cp2) = some g' → some g' ≠ some w3.heap.size) := fun g' h1 h2 => by
                  have := (hqq.base g' h1).1
                  injection h2 with h2
                  omega
                have HADD : Hid (ComeIn E l.length f j (k + 1) (met2 ++ [k]) (work2 ++ [k]) ∧ 2 * (l.length - (met2 ++ [k]).length) + (work2 ++ [k]).length < gk) := by
                  have hnot : k ∉ met2 := fun h => by simpa using HIN.out.2 h
                  have hc := HY.out.2.1.add hnot hlt (HED.out.2 rfl)
                  refine ⟨hc, ?_⟩
                  have h1 := HY.out.1
                  have h2 := hc.le
                  simp at h2 ⊢
                  omega
                go_wp2_with (first
                  | (at_mapUpdate; refine wpList_mapUpdate_own _ rfl _ _ _ 80 rfl 9 3 lawS Try.underlying80 _ w3.heap.size met2.length _ rfl hownc (by unfold maxLen; omega) _ _ _ rfl rfl hkey _ [] (plainElem_int Try.underlying3 (WalkArith.wf_i64 (by omega))) ?_; intro w1 hown1 hgrow1)
                  | (at_builtin; refine wpList_queue _ rfl _ _ rfl (w3.heap.size + 1) (.slice (some ⟨g2, o3, none⟩) work2.length cp2) work2 rfl ((hqc.kept hgrow1 HNEM.out).kept (World.grownBy_alloc _ _ none) (by simp)) w1.heap.size k rfl ((CellsAt.new w1 3 #[.int .i64 (k : Int)]).cell 0) (by omega) (by have := hown1.lt; simp; omega) ?_; intro v' wq hq' hgq hv'))
                have BG := BC.grown hgrow1 BC.size (fun i hi => by cases hi; exact Nat.le_refl _)
                have BH := BG.alloc BG.size (.cells #[.int .i64 (k : Int)] 3)
                have OW := (hown1.kept (World.grownBy_alloc _ _ none) (by simp)).kept hgq (fun e => HNEM.out _ e.symm rfl)
                rw [show met2.length + 1 = (met2 ++ [k]).length by simp] at OW
                refine ⟨⟨k + 1, met2 ++ [k], work2 ++ [k], _, by omega, by go_num, ⟨⟨HADD.out.2, HY.out.1.2⟩, HADD.out.1, HPUT.out _⟩, OW, hq', ?_, ?_, BH.grown hgq BH.size (fun i hi => by have := (hqq.base i hi).1; omega), HL.out⟩, by simp [intOf]; omega⟩
                · intro g' hg'
                  rcases hv' g' hg' with h1 | h1
                  · exact HNE.out g' h1
                  · have h2 := hCc.lt
                    have h3 := hgrow1.size
                    simp at h1
                    omega
                · refine ((hCc.kept hgrow1 (fun e => ?_)).kept (World.grownBy_alloc _ _ none) (by simp)).kept hgq (fun e => HNE.out _ e.symm rfl)
                  injection e with e
                  have := HL.out
                  omega
            · go_wp2_with (first
                | (at_lookup; refine wpList_lookup_own_ok_int _ rfl _ _ 80 rfl 9 3 .i64 lawS Try.underlying80 Try.underlying3 (zeroI _) w3.heap.size met2.length D2 rfl (hown2.kept (World.grownBy_alloc _ _ none) (by simp)) _ _ rfl hkey ?_; intro c hat' hwc; clear hat' hwc))
              exact ⟨⟨k + 1, met2, work2, D2, by omega, by go_num, ⟨HY.out.1, HY.out.2.1.skip (.inl (HIN.out.1 rfl)), HY.out.2.2⟩, hown2.kept (World.grownBy_alloc _ _ none) (by simp), hqq.kept (World.grownBy_alloc _ _ none) (by simp), HNE.out, hC2, BI.alloc BI.size _, HL.out⟩, by simp [intOf]; omega⟩
          · obtain rfl : k = l.length := by omega
            go_wp2_with fail
            go_roundg (2 * (l.length - met2.length) + work2.length)
            case measure => exact HY.out.1.1
            case rel => exact ⟨met2, work2, D2, ⟨⟨rfl, by have := HY.out.1; omega⟩, HY.out.2.1.fin (fun k hk => HTT.out.lt _ _ hk), HY.out.2.2⟩, hown2, hqq, BI⟩

end Go.Proofs.Ytaklbnabgcglhac
