/- What is come to, both ways. -/
import Derived.Test.YtaklbnabgcglhabGrC1
namespace Go.Proofs.Ytaklbnabgcglhab
open Go.RowKit Go.PlainAid

theorem comeErr_zero {L : List Plc} {name : ByteArray} (h : comeErr L name = 0) : chkGraph L = 0 := by
  unfold comeErr at h
  split at h
  · exact absurd h ‹_›
  · omega
theorem chk_nodup {L : List Plc} (h : chkGraph L = 0) : ((L.map (·.mod)).map (·.name)).Nodup := by
  have := (chkGraph_zero.1 h).2.2
  rw [List.map_map]
  exact this
theorem ComeRes.err {nx : Mod → Mod → Bool} {L : List Plc} {name : ByteArray} {ss : List ByteArray} (h : ComeRes nx L name ss) (he : comeErr L name ≠ 0) : ss = [] := by
  rcases h with ⟨_, h⟩ | ⟨h, _⟩
  · exact h
  · exact absurd h he
theorem ComeRes.ok {nx : Mod → Mod → Bool} {L : List Plc} {name : ByteArray} {ss : List ByteArray} (h : ComeRes nx L name ss) (he : comeErr L name = 0) : ∃ f, f < L.length ∧ nameAt (L.map (·.mod)) f = name ∧ Comes nx (L.map (·.mod)) f ss := by
  rcases h with ⟨h, _⟩ | ⟨_, h⟩
  · exact absurd he h
  · exact h
theorem Comes.has {nx : Mod → Mod → Bool} {Ms : List Mod} (hd : (Ms.map (·.name)).Nodup) {f k : Nat} {ss : List ByteArray} (h : Comes nx Ms f ss) (hk : k < Ms.length) : nameAt Ms k ∈ ss ↔ Via (Next nx Ms) f k := by
  rw [h.2]
  constructor
  · rintro ⟨j, hj, he⟩
    rw [← nameAt_inj hd hj.lt_of.2 hk he]
    exact hj
  · exact fun hv => ⟨k, hv, rfl⟩
theorem turned_has {L : List Plc} {a b : ByteArray} {xs ys : List ByteArray} (ha : comeErr L a = 0) (hb : comeErr L b = 0) (hx : ComeRes nxNeed L a xs) (hy : ComeRes nxUse L b ys) : (xs.any fun y => y == b) = (ys.any fun y => y == a) := by
  have hd := chk_nodup (comeErr_zero ha)
  obtain ⟨fa, la, na, ca⟩ := hx.ok ha
  obtain ⟨fb, lb, nb, cb⟩ := hy.ok hb
  have la' : fa < (L.map (·.mod)).length := by simpa using la
  have lb' : fb < (L.map (·.mod)).length := by simpa using lb
  rw [Bool.eq_iff_iff, any_mem, any_mem, ← na, ← nb, ca.has hd lb', cb.has hd la', via_turn]
theorem turned_more {L : List Plc} {a b : ByteArray} {xs zs : List ByteArray} (ha : comeErr L a = 0) (hb : comeErr L b = 0) (hx : ComeRes nxNeed L a xs) (hz : ComeRes nxNeed L b zs) (h : (xs.any fun y => y == b) = true) : ∀ z ∈ zs, (xs.any fun y => y == z) = true := by
  have hd := chk_nodup (comeErr_zero ha)
  obtain ⟨fa, la, na, ca⟩ := hx.ok ha
  obtain ⟨fb, lb, nb, cb⟩ := hz.ok hb
  have lb' : fb < (L.map (·.mod)).length := by simpa using lb
  rw [any_mem, ← nb, ca.has hd lb'] at h
  intro z hz2
  rw [any_mem]
  obtain ⟨k, hk, rfl⟩ := (cb.2 z).1 hz2
  exact (ca.has hd hk.lt_of.2).2 (h.trans hk)

end Go.Proofs.Ytaklbnabgcglhab
