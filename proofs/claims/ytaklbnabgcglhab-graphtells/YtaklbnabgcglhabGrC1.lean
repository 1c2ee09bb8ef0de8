/- What graph.comeTo is told, and its cases. -/
import Derived.Test.YtaklbnabgcglhabGrI
import Derived.Test.YtaklbnabgcglhabGrQ
import Derived.Test.YtaklbnabgcglhabGrC0
namespace Go.Proofs.Ytaklbnabgcglhab
open Go.RowKit Go.PlainAid Go.Maps Go.WideMaps

set_option maxRecDepth 100000

def comeErr (L : List Plc) (name : ByteArray) : Int := if chkGraph L ≠ 0 then chkGraph L else if (L.any fun p => p.mod.name == name) = true then 0 else 5
def Comes (nx : Mod → Mod → Bool) (Ms : List Mod) (f : Nat) (ss : List ByteArray) : Prop := Rising ss ∧ ∀ x, x ∈ ss ↔ ∃ k, Via (Next nx Ms) f k ∧ nameAt Ms k = x
def ComeRes (nx : Mod → Mod → Bool) (L : List Plc) (name : ByteArray) (ss : List ByteArray) : Prop :=
  (comeErr L name ≠ 0 ∧ ss = []) ∨ (comeErr L name = 0 ∧ ∃ f, f < L.length ∧ nameAt (L.map (·.mod)) f = name ∧ Comes nx (L.map (·.mod)) f ss)

theorem come_cases (nx : Mod → Mod → Bool) (l : List PV) (name : ByteArray) :
    (chkGraph (l.map PV.plc) ≠ 0 ∧ comeErr (l.map PV.plc) name = chkGraph (l.map PV.plc) ∧ ComeRes nx (l.map PV.plc) name []) ∨
    (chkGraph (l.map PV.plc) = 0 ∧ ixFrom (fun x : PV => x.mod.name == name) 0 l = -1 ∧ comeErr (l.map PV.plc) name = 5 ∧ ComeRes nx (l.map PV.plc) name []) ∨
    (chkGraph (l.map PV.plc) = 0 ∧ ∃ f : Nat, f < l.length ∧ ixFrom (fun x : PV => x.mod.name == name) 0 l = (f : Int) ∧ comeErr (l.map PV.plc) name = 0 ∧ ∀ ss, Comes nx (l.map (·.mod)) f ss → ComeRes nx (l.map PV.plc) name ss) := by
  have hany : ((l.map PV.plc).any fun p => p.mod.name == name) = l.any fun x : PV => x.mod.name == name := by rw [List.any_map]; rfl
  have hmm : (l.map PV.plc).map (·.mod) = l.map (·.mod) := by rw [List.map_map]; rfl
  by_cases h0 : chkGraph (l.map PV.plc) = 0
  · rcases ix_find (fun x : PV => x.mod.name == name) l 0 with ⟨h1, h2⟩ | ⟨j, x, h1, h2, h3⟩
    · have h4 : (l.any fun x : PV => x.mod.name == name) = false := by
        rw [← Bool.not_eq_true, List.any_eq_true]
        rintro ⟨y, hy, he⟩
        exact List.find?_eq_none.1 h1 y hy he
      have h5 : comeErr (l.map PV.plc) name = 5 := by
        unfold comeErr
        rw [if_neg (by omega), hany, h4]; rfl
      exact .inr (.inl ⟨h0, h2, h5, .inl ⟨by omega, rfl⟩⟩)
    · have h6 : (x.mod.name == name) = true := by simpa using List.find?_some h1
      have h4 : (l.any fun x : PV => x.mod.name == name) = true := List.any_eq_true.2 ⟨x, List.mem_of_getElem? h2, h6⟩
      have h5 : comeErr (l.map PV.plc) name = 0 := by
        unfold comeErr
        rw [if_neg (by omega), hany, h4]; rfl
      have hj : j < l.length := (List.getElem?_eq_some_iff.1 h2).1
      refine .inr (.inr ⟨h0, j, hj, by rw [h3, Nat.zero_add], h5, fun ss hs => .inr ⟨h5, j, by simpa using hj, ?_, by rw [hmm]; exact hs⟩⟩)
      rw [hmm, nameAt_some (x := x.mod) (by rw [List.getElem?_map, h2]; rfl)]
      exact (Go.MapKept.bytes_beq _ _).1 h6
  · have h5 : comeErr (l.map PV.plc) name = chkGraph (l.map PV.plc) := by
      unfold comeErr
      rw [if_pos h0]
    exact .inl ⟨h0, h5, .inl ⟨by rw [h5]; exact h0, rfl⟩⟩

set_option maxHeartbeats 1000000 in
theorem come1_any (B : Nat) (name : ByteArray) (x : PV) (w : World) (hlt : B < w.heap.size) (hB : w.cell? ⟨B, 0, none⟩ = some (.string name)) (hat : PlcAt w.heap.size w x) :
    Calls Try.prog 84 #[x.val, .pointer (some ⟨B, 0, none⟩)] w fun e w' => e = .returned (.bool (x.mod.name == name)) ∧ Below w.heap.size w w' := by
  rw [← toList_beq2]
  obtain ⟨⟨pe, ke, e4, _⟩, ⟨pi, ki, e5, _⟩, ⟨pp, kp, e6, _⟩⟩ := hat
  obtain ⟨⟨N, ma, mi, T, es, is, ps⟩, ve, vi, vp, fi⟩ := x
  dsimp only at e4 e5 e6
  subst e4 e5 e6
  dsimp only [PV.val]
  generalize es.length = le at *
  generalize is.length = li at *
  generalize ps.length = lp at *
  go_enter Try.func84, Try.ntmps84
  go_wp2
  go_ret
  exact ⟨rfl, (Below.refl _ _).alloc (Nat.le_refl _) _⟩

/-- What the walk is told of those that are placed. -/
structure Told (nx : Mod → Mod → Bool) (l : List PV) (E : Nat → Nat → Prop) (nA : Nat → ByteArray) : Prop where
  edge : ∀ (i k : Nat) (x y : PV), l[i]? = some x → l[k]? = some y → (E i k ↔ nx x.mod y.mod = true)
  lt : ∀ i k, E i k → k < l.length
  name : ∀ (k : Nat) (x : PV), l[k]? = some x → nA k = x.mod.name
  met : ∀ (met : List Nat), (∀ k ∈ met, k < l.length) → ∀ i, i < l.length → (((met.map nA).any fun y => y == nA i) = true ↔ i ∈ met)
  nodup : ∀ met : List Nat, (∀ k ∈ met, k < l.length) → met.Nodup → (met.map nA).Nodup
theorem told_of (nx : Mod → Mod → Bool) (l : List PV) (hd : (l.map (·.mod.name)).Nodup) : Told nx l (Next nx (l.map (·.mod))) (nameAt (l.map (·.mod))) := by
  have hd2 : ((l.map (·.mod)).map (·.name)).Nodup := by rw [List.map_map]; exact hd
  have at_ : ∀ (k : Nat) (x : PV), l[k]? = some x → (l.map (·.mod))[k]? = some x.mod := fun k x h => by rw [List.getElem?_map, h]; rfl
  refine ⟨fun i k x y hx hy => Next.iff (at_ i x hx) (at_ k y hy), fun i k h => by simpa using h.lt.2, fun k x hx => nameAt_some (at_ k x hx), fun met hm i hi => any_name hd2 (by simpa using hm) (by simpa using hi), fun met hm hn => ?_⟩
  exact List.pairwise_map.2 (hn.imp_of_mem fun {a b} ha hb hne e => hne (nameAt_inj hd2 (by simpa using hm a ha) (by simpa using hm b hb) e))

theorem map_below {W W' : World} {t : TypeId} {R : Value → Option (DataW Unit × List MemPlace)} {b n m : Nat} {D : DataW Unit} (h : W.ownsMap Try.prog t R b n D) (hb : Below m W W') (hlt : b < m) : W'.ownsMap Try.prog t R b n D := by
  obtain ⟨es, clock, h1, Ft, hs, hD⟩ := h
  exact ⟨es, clock, (hb.block b hlt).trans h1, Ft, hs, hD⟩

end Go.Proofs.Ytaklbnabgcglhab
