/- Texts that are laid together. -/
import Derived.MapKept
import Derived.Test.YthmohjgdcjafkaeGreatMrgA
import Derived.Test.YthmohjgdcjafkaeGreatMrgH
import Derived.Test.YthmohjgdcjafkaeGreatMrgF
import Derived.Test.YthmohjgdcjafkaeGreatMrgB
import Derived.Test.YthmohjgdcjafkaeGreatMrgG
import Derived.ArgAppend

/- Names that rise; modules in an order in which each stands behind all that it asks. -/
namespace Go.Proofs.YthmohjgdcjafkaeGreat
open Go.RowKit Go.PlainAid

/-- One name stands ahead of another one. -/
def Ahead (a b : ByteArray) : Prop := a.data.toList < b.data.toList
theorem bytes_ext {a b : ByteArray} (h : a.data.toList = b.data.toList) : a = b := ByteArray.ext (Array.toList_inj.1 h)
theorem Ahead.irrefl (a : ByteArray) : ¬ Ahead a a := List.lt_irrefl _
theorem Ahead.trans {a b c : ByteArray} (h : Ahead a b) (g : Ahead b c) : Ahead a c := List.lt_trans h g
theorem Ahead.asymm {a b : ByteArray} (h : Ahead a b) (g : Ahead b a) : False := Ahead.irrefl a (h.trans g)
theorem Ahead.total (a b : ByteArray) : Ahead a b ∨ a = b ∨ Ahead b a := by
  by_cases h1 : a.data.toList < b.data.toList
  · exact .inl h1
  by_cases h2 : b.data.toList < a.data.toList
  · exact .inr (.inr h2)
  · exact .inr (.inl (bytes_ext (List.le_antisymm (List.not_lt.1 h2) (List.not_lt.1 h1))))

def Rising (ss : List ByteArray) : Prop := ss.Pairwise Ahead
theorem Ahead.ne {a b : ByteArray} (h : Ahead a b) : a ≠ b := fun e => Ahead.irrefl a (by rw [← e] at h; exact h)
theorem Rising.nodup {ss : List ByteArray} (h : Rising ss) : ss.Nodup := List.Pairwise.imp Ahead.ne h
theorem Rising.same {a b : List ByteArray} (ha : Rising a) (hb : Rising b) (h : ∀ x, x ∈ a ↔ x ∈ b) : a = b :=
  List.Perm.eq_of_pairwise (le := Ahead) (fun _ _ _ _ h1 h2 => (h1.asymm h2).elim) ha hb ((List.perm_ext_iff_of_nodup ha.nodup hb.nodup).2 h)

theorem full_mem {α : Type} {l₁ l₂ : List α} (d : l₁.Nodup) (s : ∀ x ∈ l₁, x ∈ l₂) (h : l₂.length ≤ l₁.length) : ∀ x ∈ l₂, x ∈ l₁ := by
  intro x hx
  refine Classical.byContradiction fun hn => ?_
  have h1 : (x :: l₁).length ≤ l₂.length := List.Nodup.length_le_of_subset (List.nodup_cons.2 ⟨hn, d⟩) (fun y hy => by
    rcases List.mem_cons.1 hy with rfl | hy
    · exact hx
    · exact s y hy)
  simp at h1
  omega

theorem any_mem {met : List ByteArray} {n : ByteArray} : (met.any fun y => y == n) = true ↔ n ∈ met := by
  rw [List.any_eq_true]
  constructor
  · rintro ⟨x, hx, he⟩
    rw [← (Go.MapKept.bytes_beq x n).1 he]
    exact hx
  · exact fun h => ⟨n, h, (Go.MapKept.bytes_beq n n).2 rfl⟩

/-- Has a module an import from the one of that name? -/
def asksM (m : Mod) (n : ByteArray) : Bool := m.imps.any fun i => i.mod == n
def waitsB (met : List ByteArray) (m : Mod) : Bool := !(met.any fun y => y == m.name)
def mayB (Rs : List Mod) (met : List ByteArray) (m : Mod) : Bool := waitsB met m && !(Rs.any fun o => waitsB met o && asksM m o.name)
def orderFrom (Rs : List Mod) : Nat → List ByteArray → Option (List ByteArray)
  | 0, met => some met
  | n + 1, met => match Rs.find? (mayB Rs met) with | none => none | some m => orderFrom Rs n (met ++ [m.name])

theorem waits_iff {met : List ByteArray} {m : Mod} : waitsB met m = true ↔ m.name ∉ met := by
  unfold waitsB
  rw [Bool.not_eq_true', ← Bool.not_eq_true, List.any_eq_true]
  constructor
  · exact fun h hm => h ⟨_, hm, (Go.MapKept.bytes_beq _ _).2 rfl⟩
  · rintro h ⟨x, hx, he⟩
    rw [(Go.MapKept.bytes_beq _ _).1 he] at hx
    exact h hx
theorem may_iff {Rs : List Mod} {met : List ByteArray} {m : Mod} : mayB Rs met m = true ↔ m.name ∉ met ∧ ∀ o ∈ Rs, asksM m o.name = true → o.name ∈ met := by
  unfold mayB
  rw [Bool.and_eq_true, waits_iff, Bool.not_eq_true', ← Bool.not_eq_true, List.any_eq_true]
  constructor
  · rintro ⟨h1, h2⟩
    refine ⟨h1, fun o ho ha => Classical.byContradiction fun hn => h2 ⟨o, ho, ?_⟩⟩
    rw [Bool.and_eq_true, waits_iff]
    exact ⟨hn, ha⟩
  · rintro ⟨h1, h2⟩
    refine ⟨h1, ?_⟩
    rintro ⟨o, ho, hb⟩
    rw [Bool.and_eq_true, waits_iff] at hb
    exact hb.1 (h2 o ho hb.2)

/-- Each stands behind all that it asks. -/
def Stands (Rs : List Mod) (c : List ByteArray) : Prop := ∀ (i : Nat) (x : ByteArray), c[i]? = some x → ∃ m ∈ Rs, m.name = x ∧ x ∉ c.take i ∧ ∀ o ∈ Rs, asksM m o.name = true → o.name ∈ c.take i
theorem Stands.nil {Rs : List Mod} : Stands Rs [] := fun i x hx => by simp at hx
theorem Stands.at {Rs : List Mod} {c : List ByteArray} (h : Stands Rs c) : ∀ (i : Nat) (x : ByteArray), c[i]? = some x → ∃ m ∈ Rs, m.name = x ∧ x ∉ c.take i ∧ ∀ o ∈ Rs, asksM m o.name = true → o.name ∈ c.take i := h
theorem Stands.snoc {Rs : List Mod} {met : List ByteArray} {m : Mod} (h : Stands Rs met) (hm : m ∈ Rs) (hn : m.name ∉ met) (ha : ∀ o ∈ Rs, asksM m o.name = true → o.name ∈ met) : Stands Rs (met ++ [m.name]) := by
  intro i x hx
  by_cases hi : i < met.length
  · rw [List.getElem?_append_left hi] at hx
    rw [List.take_append_of_le_length (by omega)]
    exact h i x hx
  · have hi2 : i = met.length := by
      have := (List.getElem?_eq_some_iff.1 hx).1
      simp at this
      omega
    subst hi2
    have hx2 : m.name = x := by simpa using hx
    subst hx2
    rw [List.take_left' rfl]
    exact ⟨m, hm, rfl, hn, ha⟩
theorem Stands.nodup {Rs : List Mod} {c : List ByteArray} (h : Stands Rs c) : c.Nodup := by
  refine List.pairwise_iff_getElem.2 fun i j hi hj hij e => ?_
  obtain ⟨_, _, _, hn, _⟩ := h j c[j] (List.getElem?_eq_getElem hj)
  refine hn ?_
  rw [← e]
  exact List.mem_take_iff_getElem.2 ⟨i, by omega, rfl⟩
theorem Stands.names {Rs : List Mod} {c : List ByteArray} (h : Stands Rs c) : ∀ x ∈ c, ∃ m ∈ Rs, m.name = x := by
  intro x hx
  obtain ⟨i, hi⟩ := List.getElem?_of_mem hx
  obtain ⟨m, hm, hmx, _⟩ := h i x hi
  exact ⟨m, hm, hmx⟩
theorem order_stands {Rs : List Mod} : ∀ {n : Nat} {met c : List ByteArray}, Stands Rs met → orderFrom Rs n met = some c → Stands Rs c ∧ c.length = met.length + n ∧ c.take met.length = met
  | 0, met, c, h, he => by
    have : met = c := by simpa [orderFrom] using he
    subst this
    exact ⟨h, rfl, by simp⟩
  | n + 1, met, c, h, he => by
    unfold orderFrom at he
    split at he
    · cases he
    rename_i m hf
    have hm := List.mem_of_find?_eq_some hf
    have hp := may_iff.1 (List.find?_some hf)
    obtain ⟨h1, h2, h3⟩ := order_stands (.snoc h hm hp.1 hp.2) he
    refine ⟨h1, by simp at h2; omega, ?_⟩
    have h4 := congrArg (List.take met.length) h3
    rw [List.take_take, List.take_left' rfl] at h4
    rw [show min met.length (met ++ [m.name]).length = met.length by simp] at h4
    exact h4
/-- What is picked at each place. -/
theorem order_at {Rs : List Mod} : ∀ {n : Nat} {met c : List ByteArray}, Stands Rs met → orderFrom Rs n met = some c → ∀ j, met.length ≤ j → j < c.length → ∃ m, Rs.find? (mayB Rs (c.take j)) = some m ∧ c[j]? = some m.name
  | 0, met, c, h, he => by
    have : met = c := by simpa [orderFrom] using he
    subst this
    intro j h1 h2
    omega
  | n + 1, met, c, h, he => by
    have hall := (order_stands h he).2.2
    unfold orderFrom at he
    split at he
    · cases he
    rename_i m hf
    have hm := List.mem_of_find?_eq_some hf
    have hp := may_iff.1 (List.find?_some hf)
    have h0 : Stands Rs (met ++ [m.name]) := .snoc h hm hp.1 hp.2
    intro j h1 h2
    by_cases hj : j = met.length
    · subst hj
      refine ⟨m, by rw [hall]; exact hf, ?_⟩
      have h3 := (order_stands h0 he).2.2
      have h4 : (c.take (met ++ [m.name]).length)[met.length]? = some m.name := by rw [h3]; simp
      rw [List.getElem?_take] at h4
      rw [if_pos (by simp)] at h4
      exact h4
    · exact order_at h0 he j (by simp; omega) h2
theorem order_none {Rs : List Mod} : ∀ {n : Nat} {met : List ByteArray}, Stands Rs met → orderFrom Rs n met = none → ∃ met', Stands Rs met' ∧ met'.length < met.length + n ∧ ∀ m ∈ Rs, mayB Rs met' m = false
  | 0, met, h, he => by simp [orderFrom] at he
  | n + 1, met, h, he => by
    unfold orderFrom at he
    split at he
    · rename_i hf
      exact ⟨met, h, by omega, fun m hm => by simpa using List.find?_eq_none.1 hf m hm⟩
    · rename_i m hf
      have hm := List.mem_of_find?_eq_some hf
      have hp := may_iff.1 (List.find?_some hf)
      obtain ⟨m', h1, h2, h3⟩ := order_none (.snoc h hm hp.1 hp.2) he
      exact ⟨m', h1, by simp at h2; omega, h3⟩

theorem nodup_names {Rs : List Mod} (hd : (Rs.map (·.name)).Nodup) {a b : Mod} (ha : a ∈ Rs) (hb : b ∈ Rs) (h : a.name = b.name) : a = b := by
  obtain ⟨i, hi⟩ := List.getElem?_of_mem ha
  obtain ⟨k, hk⟩ := List.getElem?_of_mem hb
  have h1 : (Rs.map (·.name))[i]? = some a.name := by rw [List.getElem?_map, hi]; rfl
  have h2 : (Rs.map (·.name))[k]? = some a.name := by rw [List.getElem?_map, hk, h]; rfl
  have hil : i < (Rs.map (·.name)).length := (List.getElem?_eq_some_iff.1 h1).1
  have e := (List.getElem?_inj hil hd).1 (h1.trans h2.symm)
  subst e
  rw [hi] at hk
  exact Option.some.inj hk

/-- Those of which each asks one of them: one comes back to itself. -/
theorem comes_back {E : Nat → Nat → Prop} : ∀ (n : Nat) (W : List Nat), W.length ≤ n → W ≠ [] → (∀ i ∈ W, ∃ k ∈ W, E i k) → ∃ i ∈ W, Via E i i
  | 0, W, h1, h2, _ => absurd (List.length_eq_zero_iff.1 (by omega)) h2
  | n + 1, [], _, h2, _ => absurd rfl h2
  | n + 1, i :: W, h1, _, h3 => by
    by_cases hv : Via E i i
    · exact ⟨i, by simp, hv⟩
    · have hm : ∀ k, k ∈ W.filter (fun k => @decide (Via E i k) (Classical.propDecidable _)) ↔ k ∈ W ∧ Via E i k := fun k => by
        rw [List.mem_filter, @decide_eq_true_iff _ (Classical.propDecidable _)]
      obtain ⟨k, hk, he⟩ := h3 i (by simp)
      have hkW : k ∈ W := by
        rcases List.mem_cons.1 hk with rfl | hk
        · exact absurd (.one he) hv
        · exact hk
      obtain ⟨j, hj, hjv⟩ := comes_back n (W.filter (fun k => @decide (Via E i k) (Classical.propDecidable _))) (by
        have := List.length_filter_le (fun k => @decide (Via E i k) (Classical.propDecidable _)) W
        simp at h1
        omega) (List.ne_nil_of_mem ((hm k).2 ⟨hkW, .one he⟩)) (fun a ha => by
        obtain ⟨haW, hav⟩ := (hm a).1 ha
        obtain ⟨b, hb, hab⟩ := h3 a (by simp [haW])
        have hib := hav.more hab
        rcases List.mem_cons.1 hb with rfl | hb
        · exact absurd hib hv
        · exact ⟨b, (hm b).2 ⟨hb, hib⟩, hab⟩)
      exact ⟨j, by simp [((hm j).1 hj).1], hjv⟩

theorem find_least {Rs : List Mod} (hr : Rising (Rs.map (·.name))) {p : Mod → Bool} {m : Mod} (h : Rs.find? p = some m) : ∀ o ∈ Rs, p o = true → o = m ∨ Ahead m.name o.name := by
  obtain ⟨hp, i, hi, he, hlt⟩ := List.find?_eq_some_iff_getElem.1 h
  intro o ho hpo
  obtain ⟨k, hk, hko⟩ := List.getElem_of_mem ho
  by_cases hik : i < k
  · refine .inr ?_
    have h1 := List.pairwise_iff_getElem.1 hr i k (by simpa using hi) (by simpa using hk) hik
    rw [List.getElem_map, List.getElem_map, he, hko] at h1
    exact h1
  · by_cases hki : k = i
    · subst hki
      exact .inl (hko.symm.trans he)
    · have := hlt k (by omega)
      rw [hko, hpo] at this
      cases this

end Go.Proofs.YthmohjgdcjafkaeGreat

/- Who needs whom, as data. -/
namespace Go.Proofs.YthmohjgdcjafkaeGreat
open Go.RowKit Go.PlainAid

/-- Have two one name? -/
def twiceFrom : List ByteArray → List Plc → Bool
  | _, [] => false
  | met, p :: l => (met.any fun y => y == p.mod.name) || twiceFrom (met ++ [p.mod.name]) l
def plainErr (L : List Plc) : Int := if 8 < L.length then 2 else chkBy (fun _ => 0) L
def chkGraph (L : List Plc) : Int := if plainErr L ≠ 0 then plainErr L else if twiceFrom [] L = true then 6 else 0
theorem twice_nodup : ∀ (L : List Plc) (met : List ByteArray), met.Nodup → (twiceFrom met L = false ↔ (met ++ L.map (·.mod.name)).Nodup)
  | [], met, h => by simp [twiceFrom, h]
  | p :: l, met, h => by
    have hs : twiceFrom met (p :: l) = ((met.any fun y => y == p.mod.name) || twiceFrom (met ++ [p.mod.name]) l) := rfl
    rw [hs]
    by_cases hm : p.mod.name ∈ met
    · rw [any_mem.2 hm, Bool.true_or]
      constructor
      · intro h; cases h
      · intro hn
        rw [List.nodup_append] at hn
        exact absurd rfl (hn.2.2 _ hm _ (by simp))
    · have h0 : (met.any fun y => y == p.mod.name) = false := by
        cases he : met.any fun y => y == p.mod.name
        · rfl
        · exact absurd (any_mem.1 he) hm
      rw [h0, Bool.false_or, twice_nodup l (met ++ [p.mod.name]) (by
        rw [List.nodup_append]
        exact ⟨h, by simp, fun a ha b hb => by rw [List.mem_singleton.1 hb]; exact fun e => hm (e ▸ ha)⟩)]
      simp
theorem chkGraph_zero {L : List Plc} : chkGraph L = 0 ↔ L.length ≤ 8 ∧ (∀ p ∈ L, chkMod p.mod = 0) ∧ (L.map (·.mod.name)).Nodup := by
  have ht := twice_nodup L [] (by simp)
  rw [List.nil_append] at ht
  unfold chkGraph
  constructor
  · intro h
    split at h
    · exact absurd h ‹_›
    rename_i h1
    have h1 : plainErr L = 0 := by omega
    unfold plainErr at h1
    split at h1
    · omega
    rename_i h8
    split at h
    · omega
    rename_i h2
    exact ⟨by omega, fun p hp => (chkBy_zero.1 h1 p hp).1, ht.1 (by simpa using h2)⟩
  · rintro ⟨h1, h2, h3⟩
    have h4 : plainErr L = 0 := by
      unfold plainErr
      rw [if_neg (by omega)]
      exact chkBy_zero.2 fun p hp => ⟨h2 p hp, rfl⟩
    rw [h4, ht.2 h3]
    simp

end Go.Proofs.YthmohjgdcjafkaeGreat

/- The contract of graph.wrong. -/
namespace Go.Proofs.YthmohjgdcjafkaeGreat
open Go.RowKit Go.PlainAid Go.Maps Go.WideMaps

set_option maxRecDepth 100000

theorem chkGraph_cases (L : List Plc) : (plainErr L ≠ 0 ∧ chkGraph L = plainErr L) ∨ (plainErr L = 0 ∧ L.length ≤ 8 ∧ chkGraph L = if twiceFrom [] L = true then 6 else 0) := by
  unfold chkGraph
  by_cases h : plainErr L = 0
  · refine .inr ⟨h, ?_, by rw [if_neg (by omega)]⟩
    unfold plainErr at h
    split at h
    · omega
    · omega
  · exact .inl ⟨h, by rw [if_pos h]⟩

set_option maxHeartbeats 4000000 in
theorem graphWrong_any (l : List PV) (v : Value) (w : World) (hrow : IsPlcs w.heap.size w v l) (hfit : ∀ x ∈ l, x.mod.fits) :
    Calls Tryz.prog 100 #[v] w fun e w' => e = .returned (.int .i64 (chkGraph (l.map PV.plc))) ∧ Below w.heap.size w w' := by
  have HP : Hid (∀ W, Below w.heap.size w W → Calls Tryz.prog 107 #[v, .slice none 0 0] W fun e w' => e = .returned (.int .i64 (plainErr (l.map PV.plc))) ∧ Below W.heap.size W w') := by
    intro W hb
    have := placedWrong_nil l v W ((hrow.below hb).more hb.size) hfit
    unfold plainErr
    rw [List.length_map]
    exact this
  have hat := hrow.2
  obtain ⟨⟨a, cap, rfl, hmax, hrow⟩, _⟩ := hrow
  have key := chkGraph_cases (l.map PV.plc)
  rw [List.length_map] at key
  generalize chkGraph (l.map PV.plc) = R at *
  generalize plainErr (l.map PV.plc) = cp at *
  have hmm := @run_makeMap Tryz.prog
  go_enter Tryz.func100, Tryz.ntmps100
  go_wp2_with fail
  refine (HP.out w (Below.refl _ _)).mono ?_
  rintro e w2 ⟨rfl, B2⟩
  clear HP
  rcases key with ⟨h0, rfl⟩ | ⟨rfl, h8, hR⟩
  · have h0' : (R != 0) = true := by simpa using h0
    clear hrow hat h0
    go_wp2
    go_ret
    exact ⟨rfl, B2⟩
  · have HRR : Hid (R = if twiceFrom [] (l.map PV.plc) = true then 6 else 0) := hR
    clear hR
    go_wp2
    go_loopw [17] (fun i wr => ∃ (k : Nat) (D : DataW Unit), k ≤ l.length ∧ i = .int .i64 k ∧ wr.ownsMap Tryz.prog 9 (plainElem Tryz.prog 3) w2.heap.size k D ∧ HasNames D ((l.take k).map (·.mod.name)) ∧ Hid (twiceFrom [] (l.map PV.plc) = twiceFrom ((l.take k).map (·.mod.name)) ((l.drop k).map PV.plc)) ∧ Below w2.heap.size w2 wr) (fun i _ => l.length - (intOf i).toNat)
    case atStart => exact ⟨0, .map [], Nat.zero_le _, rfl, World.ownsMap_made _ _ _ _, HasNames.none, by show twiceFrom [] (l.map PV.plc) = twiceFrom [] ((l.drop 0).map PV.plc); rfl, (Below.refl _ _).alloc (Nat.le_refl _) _⟩
    case round =>
      obtain ⟨k, D, hk, rfl, hown, hD, HC, B⟩ := hrel
      have B' : Below w.heap.size w wr := B2.trans (B.mono B2.size)
      by_cases hlt : k < l.length
      · obtain ⟨x, hx⟩ : ∃ x, l[k]? = some x := ⟨_, List.getElem?_eq_getElem hlt⟩
        rcases hrow with h | ⟨b, off, rfl, hbn, hcells⟩
        · subst h; simp at hlt
        have hn : x.mod.name.size ≤ 9223372036854775807 := (hfit x (List.mem_of_getElem? hx)).1
        have htk : (l.take (k + 1)).map (·.mod.name) = (l.take k).map (·.mod.name) ++ [x.mod.name] := by rw [List.take_add_one, hx]; simp
        have HR : Hid (twiceFrom [] (l.map PV.plc) = ((((l.take k).map (·.mod.name)).any fun y => y == x.mod.name) || twiceFrom ((l.take (k + 1)).map (·.mod.name)) ((l.drop (k + 1)).map PV.plc))) := by
          show twiceFrom [] (l.map PV.plc) = _
          rw [HC.out, drop_at hx, htk]; rfl
        have hhas := hD x.mod.name
        have HPUT : Hid (∀ d, HasNames (D.put (.string x.mod.name.data.toList) d) ((l.take (k + 1)).map (·.mod.name))) := fun d => by rw [htk]; exact hD.put hown.isMap x.mod.name d
        have hkey : keyOf Tryz.prog 9 (.string x.mod.name) = some (.string x.mod.name.data.toList) := keyOf_string_mk Tryz.underlying9 hn
        obtain ⟨⟨pe, ke, e4, _⟩, ⟨pi, ki, e5, _⟩, ⟨pp, kp, e6, _⟩⟩ := hat x (List.mem_of_getElem? hx)
        obtain ⟨⟨N, ma, mi, T, es, is, ps⟩, ve, vi, vp, fi⟩ := x
        dsimp only at e4 e5 e6 hn HR hhas HPUT hkey
        subst e4 e5 e6
        have c0 := (B'.cell (p := ⟨b, off + k * 8 + 0, none⟩) hbn).trans (hcells k _ hx 0 (by omega))
        have c1 := (B'.cell (p := ⟨b, off + k * 8 + 1, none⟩) hbn).trans (hcells k _ hx 1 (by omega))
        have c2 := (B'.cell (p := ⟨b, off + k * 8 + 2, none⟩) hbn).trans (hcells k _ hx 2 (by omega))
        have c3 := (B'.cell (p := ⟨b, off + k * 8 + 3, none⟩) hbn).trans (hcells k _ hx 3 (by omega))
        have c4 := (B'.cell (p := ⟨b, off + k * 8 + 4, none⟩) hbn).trans (hcells k _ hx 4 (by omega))
        have c5 := (B'.cell (p := ⟨b, off + k * 8 + 5, none⟩) hbn).trans (hcells k _ hx 5 (by omega))
        have c6 := (B'.cell (p := ⟨b, off + k * 8 + 6, none⟩) hbn).trans (hcells k _ hx 6 (by omega))
        have c7 := (B'.cell (p := ⟨b, off + k * 8 + 7, none⟩) hbn).trans (hcells k _ hx 7 (by omega))
        dsimp only [PV.cell] at c0 c1 c2 c3 c4 c5 c6 c7
        rw [Nat.add_zero] at c0
        clear HC hcells hx hat htk hD
        generalize es.length = le at *
        generalize is.length = li at *
        generalize ps.length = lp at *
        generalize ((l.take k).map (·.mod.name)).any (fun y => y == N) = T' at HR hhas
        cases T'
        all_goals
          go_wp2_with (first
            | (at_lookup; refine wpList_lookup_own_ok_int _ rfl _ _ 146 rfl 9 3 .i64 lawS Tryz.underlying146 Tryz.underlying3 (zeroI _) w2.heap.size k D rfl (hown.kept (World.grownBy_alloc _ _ none) (by simp)) _ _ rfl hkey ?_; intro c hat hwc; clear hat hwc)
            | (at_mapUpdate; refine wpList_mapUpdate_own _ rfl _ _ _ 146 rfl 9 3 lawS Tryz.underlying146 _ w2.heap.size k _ rfl (hown.kept (World.grownBy_alloc _ _ none) (by simp)) (by unfold maxLen; omega) _ _ _ rfl rfl hkey _ [] (plainElem_int Tryz.underlying3 (WalkArith.wf_i64 (by omega))) ?_; intro w1 hown1 hgrow1))
        case roundEnd =>
          exact ⟨⟨k + 1, _, by omega, by go_num, hown1, HPUT.out _, HR.out, (B.alloc B.size _).grown hgrow1 (by simp; have := B.size; omega) (fun j hj => by cases hj; exact Nat.le_refl _)⟩, by simp [intOf]; omega⟩
        all_goals
          go_ret
          exact ⟨by rw [HRR.out, HR.out]; rfl, B'.alloc B'.size _⟩
      · obtain rfl : k = l.length := by omega
        have HZ : Hid (R = 0) := by
          show R = 0
          rw [HRR.out, HC.out, List.drop_length]; rfl
        go_wp2
        go_ret
        exact ⟨by rw [HZ.out]; rfl, B'⟩

end Go.Proofs.YthmohjgdcjafkaeGreat

/- The contracts of slices.IndexFunc and ContainsFunc at placed modules, imports and modules; who asks whom. -/
namespace Go.Proofs.YthmohjgdcjafkaeGreat
open Go.RowKit Go.PlainAid

set_option maxRecDepth 100000

theorem ix_any {α : Type} (p : α → Bool) : ∀ (l : List α) (k : Nat), (l.any p = true ∧ 0 ≤ ixFrom p k l) ∨ (l.any p = false ∧ ixFrom p k l = -1)
  | [], _ => .inr ⟨rfl, rfl⟩
  | x :: l, k => by
    have hs : ixFrom p k (x :: l) = if p x then (k : Int) else ixFrom p (k + 1) l := rfl
    rw [hs, List.any_cons]
    cases hx : p x
    · rw [Bool.false_or]
      exact ix_any p l (k + 1)
    · exact .inl ⟨rfl, by rw [if_pos rfl]; omega⟩

set_option maxHeartbeats 1000000 in
theorem ixPlc_any (l : List PV) (v : Value) (K : FuncId) (c : Value) (hK : ∀ w x, Sem.run Tryz.prog (callFunc K #[x, c]) w = .ok (.enter K #[x, c]) w) (p : PV → Bool) (w : World) (hrow : RowOf 8 PV.cell w.heap.size w v l)
    (hp : ∀ x ∈ l, ∀ W, Below w.heap.size w W → Calls Tryz.prog K #[x.val, c] W fun e W' => e = .returned (.bool (p x)) ∧ Below W.heap.size W W') :
    Calls Tryz.prog 71 #[v, .func (.func K) #[] #[c]] w fun e w' => e = .returned (.int .i64 (ixFrom p 0 l)) ∧ Below w.heap.size w w' := by
  obtain ⟨a, cap, rfl, _, hrow⟩ := hrow
  go_enter Tryz.func71, Tryz.ntmps71
  go_wp2
  go_loopw [8] (fun i wr => ∃ (k : Nat), k ≤ l.length ∧ i = .int .i64 k ∧ Hid (ixFrom p 0 l = ixFrom p k (l.drop k)) ∧ Below w.heap.size w wr) (fun i _ => l.length - (intOf i).toNat)
  case atStart => exact ⟨0, Nat.zero_le _, rfl, by show ixFrom p 0 l = ixFrom p 0 (l.drop 0); rfl, Below.refl _ _⟩
  case round =>
    obtain ⟨k, hk, rfl, HC, B⟩ := hrel
    by_cases hlt : k < l.length
    · obtain ⟨x, hx⟩ : ∃ x, l[k]? = some x := ⟨_, List.getElem?_eq_getElem hlt⟩
      rcases hrow with h | ⟨b, off, rfl, hbn, hcells⟩
      · subst h; simp at hlt
      have c0 := (B.cell (p := ⟨b, off + k * 8 + 0, none⟩) hbn).trans (hcells k _ hx 0 (by omega))
      have c1 := (B.cell (p := ⟨b, off + k * 8 + 1, none⟩) hbn).trans (hcells k _ hx 1 (by omega))
      have c2 := (B.cell (p := ⟨b, off + k * 8 + 2, none⟩) hbn).trans (hcells k _ hx 2 (by omega))
      have c3 := (B.cell (p := ⟨b, off + k * 8 + 3, none⟩) hbn).trans (hcells k _ hx 3 (by omega))
      have c4 := (B.cell (p := ⟨b, off + k * 8 + 4, none⟩) hbn).trans (hcells k _ hx 4 (by omega))
      have c5 := (B.cell (p := ⟨b, off + k * 8 + 5, none⟩) hbn).trans (hcells k _ hx 5 (by omega))
      have c6 := (B.cell (p := ⟨b, off + k * 8 + 6, none⟩) hbn).trans (hcells k _ hx 6 (by omega))
      have c7 := (B.cell (p := ⟨b, off + k * 8 + 7, none⟩) hbn).trans (hcells k _ hx 7 (by omega))
      dsimp only [PV.cell] at c0 c1 c2 c3 c4 c5 c6 c7
      rw [Nat.add_zero] at c0
      have HR : Hid (ixFrom p 0 l = if p x then (k : Int) else ixFrom p (k + 1) (l.drop (k + 1))) := by
        show ixFrom p 0 l = _
        rw [HC.out, drop_at hx]; rfl
      have HP' : Hid (∀ W, Below w.heap.size w W → Calls Tryz.prog K #[.agg #[.string x.mod.name, .int .i64 x.mod.major, .int .i64 x.mod.minor, .string x.mod.text, x.ve, x.vi, x.vp, .int .i64 x.first], c] W fun e W' => e = .returned (.bool (p x)) ∧ Below W.heap.size W W') := hp x (List.mem_of_getElem? hx)
      clear HC hcells hx
      generalize p x = t at HR HP'
      go_wp2_with fail
      refine Calls.mono (HP'.out _ B) ?_
      rintro e w2 ⟨rfl, b2⟩
      have B2 := B.trans (b2.mono B.size)
      clear b2 HP' c0 c1 c2 c3 c4 c5 c6 c7
      cases t
      · go_wp2
        exact ⟨⟨k + 1, by omega, by go_num, HR.out, B2⟩, by simp [intOf]; omega⟩
      · go_wp2
        go_ret
        exact ⟨by rw [HR.out]; rfl, B2⟩
    · obtain rfl : k = l.length := by omega
      have HZ : Hid (ixFrom p 0 l = -1) := by
        show ixFrom p 0 l = -1
        rw [HC.out, List.drop_length]; rfl
      go_wp2
      go_ret
      exact ⟨by rw [HZ.out]; rfl, B⟩

set_option maxHeartbeats 1000000 in
theorem ixImp_any (l : List Imp) (v : Value) (K : FuncId) (c : Value) (hK : ∀ w x, Sem.run Tryz.prog (callFunc K #[x, c]) w = .ok (.enter K #[x, c]) w) (p : Imp → Bool) (w : World) (hrow : RowOf 4 Imp.cell w.heap.size w v l)
    (hp : ∀ x ∈ l, ∀ W, Below w.heap.size w W → Calls Tryz.prog K #[.agg #[.string x.mod, .string x.name, .int .i64 x.major, .int .i64 x.minor], c] W fun e W' => e = .returned (.bool (p x)) ∧ Below W.heap.size W W') :
    Calls Tryz.prog 145 #[v, .func (.func K) #[] #[c]] w fun e w' => e = .returned (.int .i64 (ixFrom p 0 l)) ∧ Below w.heap.size w w' := by
  obtain ⟨a, cap, rfl, _, hrow⟩ := hrow
  go_enter Tryz.func145, Tryz.ntmps145
  go_wp2
  go_loopw [8] (fun i wr => ∃ (k : Nat), k ≤ l.length ∧ i = .int .i64 k ∧ Hid (ixFrom p 0 l = ixFrom p k (l.drop k)) ∧ Below w.heap.size w wr) (fun i _ => l.length - (intOf i).toNat)
  case atStart => exact ⟨0, Nat.zero_le _, rfl, by show ixFrom p 0 l = ixFrom p 0 (l.drop 0); rfl, Below.refl _ _⟩
  case round =>
    obtain ⟨k, hk, rfl, HC, B⟩ := hrel
    by_cases hlt : k < l.length
    · obtain ⟨x, hx⟩ : ∃ x, l[k]? = some x := ⟨_, List.getElem?_eq_getElem hlt⟩
      rcases hrow with h | ⟨b, off, rfl, hbn, hcells⟩
      · subst h; simp at hlt
      have c0 := (B.cell (p := ⟨b, off + k * 4 + 0, none⟩) hbn).trans (hcells k _ hx 0 (by omega))
      have c1 := (B.cell (p := ⟨b, off + k * 4 + 1, none⟩) hbn).trans (hcells k _ hx 1 (by omega))
      have c2 := (B.cell (p := ⟨b, off + k * 4 + 2, none⟩) hbn).trans (hcells k _ hx 2 (by omega))
      have c3 := (B.cell (p := ⟨b, off + k * 4 + 3, none⟩) hbn).trans (hcells k _ hx 3 (by omega))
      dsimp only [Imp.cell] at c0 c1 c2 c3
      rw [Nat.add_zero] at c0
      have HR : Hid (ixFrom p 0 l = if p x then (k : Int) else ixFrom p (k + 1) (l.drop (k + 1))) := by
        show ixFrom p 0 l = _
        rw [HC.out, drop_at hx]; rfl
      have HP' : Hid (∀ W, Below w.heap.size w W → Calls Tryz.prog K #[.agg #[.string x.mod, .string x.name, .int .i64 x.major, .int .i64 x.minor], c] W fun e W' => e = .returned (.bool (p x)) ∧ Below W.heap.size W W') := hp x (List.mem_of_getElem? hx)
      clear HC hcells hx
      generalize p x = t at HR HP'
      go_wp2_with fail
      refine Calls.mono (HP'.out _ B) ?_
      rintro e w2 ⟨rfl, b2⟩
      have B2 := B.trans (b2.mono B.size)
      clear b2 HP' c0 c1 c2 c3
      cases t
      · go_wp2
        exact ⟨⟨k + 1, by omega, by go_num, HR.out, B2⟩, by simp [intOf]; omega⟩
      · go_wp2
        go_ret
        exact ⟨by rw [HR.out]; rfl, B2⟩
    · obtain rfl : k = l.length := by omega
      have HZ : Hid (ixFrom p 0 l = -1) := by
        show ixFrom p 0 l = -1
        rw [HC.out, List.drop_length]; rfl
      go_wp2
      go_ret
      exact ⟨by rw [HZ.out]; rfl, B⟩

set_option maxHeartbeats 1000000 in
theorem ixMod_any (l : List PV) (v : Value) (K : FuncId) (c : Value) (d : Value) (hK : ∀ w x, Sem.run Tryz.prog (callFunc K #[x, c, d]) w = .ok (.enter K #[x, c, d]) w) (p : PV → Bool) (w : World) (hrow : RowOf 7 PV.cell w.heap.size w v l)
    (hp : ∀ x ∈ l, ∀ W, Below w.heap.size w W → Calls Tryz.prog K #[x.modV, c, d] W fun e W' => e = .returned (.bool (p x)) ∧ Below W.heap.size W W') :
    Calls Tryz.prog 131 #[v, .func (.func K) #[] #[c, d]] w fun e w' => e = .returned (.int .i64 (ixFrom p 0 l)) ∧ Below w.heap.size w w' := by
  obtain ⟨a, cap, rfl, _, hrow⟩ := hrow
  go_enter Tryz.func131, Tryz.ntmps131
  go_wp2
  go_loopw [8] (fun i wr => ∃ (k : Nat), k ≤ l.length ∧ i = .int .i64 k ∧ Hid (ixFrom p 0 l = ixFrom p k (l.drop k)) ∧ Below w.heap.size w wr) (fun i _ => l.length - (intOf i).toNat)
  case atStart => exact ⟨0, Nat.zero_le _, rfl, by show ixFrom p 0 l = ixFrom p 0 (l.drop 0); rfl, Below.refl _ _⟩
  case round =>
    obtain ⟨k, hk, rfl, HC, B⟩ := hrel
    by_cases hlt : k < l.length
    · obtain ⟨x, hx⟩ : ∃ x, l[k]? = some x := ⟨_, List.getElem?_eq_getElem hlt⟩
      rcases hrow with h | ⟨b, off, rfl, hbn, hcells⟩
      · subst h; simp at hlt
      have c0 := (B.cell (p := ⟨b, off + k * 7 + 0, none⟩) hbn).trans (hcells k _ hx 0 (by omega))
      have c1 := (B.cell (p := ⟨b, off + k * 7 + 1, none⟩) hbn).trans (hcells k _ hx 1 (by omega))
      have c2 := (B.cell (p := ⟨b, off + k * 7 + 2, none⟩) hbn).trans (hcells k _ hx 2 (by omega))
      have c3 := (B.cell (p := ⟨b, off + k * 7 + 3, none⟩) hbn).trans (hcells k _ hx 3 (by omega))
      have c4 := (B.cell (p := ⟨b, off + k * 7 + 4, none⟩) hbn).trans (hcells k _ hx 4 (by omega))
      have c5 := (B.cell (p := ⟨b, off + k * 7 + 5, none⟩) hbn).trans (hcells k _ hx 5 (by omega))
      have c6 := (B.cell (p := ⟨b, off + k * 7 + 6, none⟩) hbn).trans (hcells k _ hx 6 (by omega))
      dsimp only [PV.cell] at c0 c1 c2 c3 c4 c5 c6
      rw [Nat.add_zero] at c0
      have HR : Hid (ixFrom p 0 l = if p x then (k : Int) else ixFrom p (k + 1) (l.drop (k + 1))) := by
        show ixFrom p 0 l = _
        rw [HC.out, drop_at hx]; rfl
      have HP' : Hid (∀ W, Below w.heap.size w W → Calls Tryz.prog K #[.agg #[.string x.mod.name, .int .i64 x.mod.major, .int .i64 x.mod.minor, .string x.mod.text, x.ve, x.vi, x.vp], c, d] W fun e W' => e = .returned (.bool (p x)) ∧ Below W.heap.size W W') := hp x (List.mem_of_getElem? hx)
      clear HC hcells hx
      generalize p x = t at HR HP'
      go_wp2_with fail
      refine Calls.mono (HP'.out _ B) ?_
      rintro e w2 ⟨rfl, b2⟩
      have B2 := B.trans (b2.mono B.size)
      clear b2 HP' c0 c1 c2 c3 c4 c5 c6
      cases t
      · go_wp2
        exact ⟨⟨k + 1, by omega, by go_num, HR.out, B2⟩, by simp [intOf]; omega⟩
      · go_wp2
        go_ret
        exact ⟨by rw [HR.out]; rfl, B2⟩
    · obtain rfl : k = l.length := by omega
      have HZ : Hid (ixFrom p 0 l = -1) := by
        show ixFrom p 0 l = -1
        rw [HC.out, List.drop_length]; rfl
      go_wp2
      go_ret
      exact ⟨by rw [HZ.out]; rfl, B⟩

set_option maxHeartbeats 1000000 in
theorem anyImp_any (l : List Imp) (v : Value) (K : FuncId) (c : Value) (hK : ∀ w x, Sem.run Tryz.prog (callFunc K #[x, c]) w = .ok (.enter K #[x, c]) w) (p : Imp → Bool) (w : World) (hrow : RowOf 4 Imp.cell w.heap.size w v l)
    (hp : ∀ x ∈ l, ∀ W, Below w.heap.size w W → Calls Tryz.prog K #[.agg #[.string x.mod, .string x.name, .int .i64 x.major, .int .i64 x.minor], c] W fun e W' => e = .returned (.bool (p x)) ∧ Below W.heap.size W W') :
    Calls Tryz.prog 122 #[v, .func (.func K) #[] #[c]] w fun e w' => e = .returned (.bool (l.any p)) ∧ Below w.heap.size w w' := by
  have HI : Hid (Calls Tryz.prog 145 #[v, .func (.func K) #[] #[c]] w fun e w' => e = .returned (.int .i64 (ixFrom p 0 l)) ∧ Below w.heap.size w w') := ixImp_any l v K c hK p w hrow hp
  obtain ⟨a, cap, rfl, _, _⟩ := hrow
  have key := ix_any p l 0
  generalize l.any p = r at *
  generalize ixFrom p 0 l = ix at *
  generalize l.length = ll at *
  clear hK hp
  go_enter Tryz.func122, Tryz.ntmps122
  go_wp2_with fail
  refine HI.out.mono ?_
  rintro e w2 ⟨rfl, b2⟩
  clear HI
  rcases key with ⟨rfl, h1⟩ | ⟨rfl, rfl⟩
  · go_wp2
    go_ret
    exact ⟨rfl, b2⟩
  · go_wp2
    go_ret
    exact ⟨rfl, b2⟩

set_option maxHeartbeats 1000000 in
theorem anyMod_any (l : List PV) (v : Value) (K : FuncId) (c : Value) (d : Value) (hK : ∀ w x, Sem.run Tryz.prog (callFunc K #[x, c, d]) w = .ok (.enter K #[x, c, d]) w) (p : PV → Bool) (w : World) (hrow : RowOf 7 PV.cell w.heap.size w v l)
    (hp : ∀ x ∈ l, ∀ W, Below w.heap.size w W → Calls Tryz.prog K #[x.modV, c, d] W fun e W' => e = .returned (.bool (p x)) ∧ Below W.heap.size W W') :
    Calls Tryz.prog 129 #[v, .func (.func K) #[] #[c, d]] w fun e w' => e = .returned (.bool (l.any p)) ∧ Below w.heap.size w w' := by
  have HI : Hid (Calls Tryz.prog 131 #[v, .func (.func K) #[] #[c, d]] w fun e w' => e = .returned (.int .i64 (ixFrom p 0 l)) ∧ Below w.heap.size w w') := ixMod_any l v K c d hK p w hrow hp
  obtain ⟨a, cap, rfl, _, _⟩ := hrow
  have key := ix_any p l 0
  generalize l.any p = r at *
  generalize ixFrom p 0 l = ix at *
  generalize l.length = ll at *
  clear hK hp
  go_enter Tryz.func129, Tryz.ntmps129
  go_wp2_with fail
  refine HI.out.mono ?_
  rintro e w2 ⟨rfl, b2⟩
  clear HI
  rcases key with ⟨rfl, h1⟩ | ⟨rfl, rfl⟩
  · go_wp2
    go_ret
    exact ⟨rfl, b2⟩
  · go_wp2
    go_ret
    exact ⟨rfl, b2⟩

set_option maxHeartbeats 1000000 in
theorem asks1_any (B : Nat) (name : ByteArray) (x : Imp) (w : World) (hlt : B < w.heap.size) (hB : w.cell? ⟨B, 0, none⟩ = some (.string name)) :
    Calls Tryz.prog 123 #[.agg #[.string x.mod, .string x.name, .int .i64 x.major, .int .i64 x.minor], .pointer (some ⟨B, 0, none⟩)] w fun e w' => e = .returned (.bool (x.mod == name)) ∧ Below w.heap.size w w' := by
  rw [← toList_beq2]
  obtain ⟨M, N, a, b⟩ := x
  dsimp only
  go_enter Tryz.func123, Tryz.ntmps123
  go_wp2
  go_ret
  exact ⟨rfl, (Below.refl _ _).alloc (Nat.le_refl _) _⟩

set_option maxHeartbeats 1000000 in
theorem asks_any (M : Mod) (v : Value) (name : ByteArray) (w : World) (hM : IsMod w.heap.size w v M) :
    Calls Tryz.prog 80 #[v, .string name] w fun e w' => e = .returned (.bool (asksM M name)) ∧ Below w.heap.size w w' := by
  obtain ⟨ve, vi, vp, rfl, hE, hI, hP⟩ := hM
  have HA : Hid (∀ W B, Below w.heap.size w W → B < W.heap.size → W.cell? ⟨B, 0, none⟩ = some (.string name) → Calls Tryz.prog 122 #[vi, .func (.func 123) #[] #[.pointer (some ⟨B, 0, none⟩)]] W fun e w' => e = .returned (.bool (asksM M name)) ∧ Below W.heap.size W w') := by
    intro W B hb hlt hB
    exact anyImp_any M.imps vi 123 (.pointer (some ⟨B, 0, none⟩)) (fun w x => enters_of Tryz.func123 (by kernel_rfl) rfl _ w) _ W ((hI.below hb).more hb.size) (fun x _ W' hb' => asks1_any B name x W' (Nat.lt_of_lt_of_le hlt hb'.size) ((hb'.cell (p := ⟨B, 0, none⟩) hlt).trans hB))
  obtain ⟨pe, ke, rfl, _, _⟩ := hE
  obtain ⟨pi, ki, rfl, _, _⟩ := hI
  obtain ⟨pp, kp, rfl, _, _⟩ := hP
  generalize asksM M name = r at *
  obtain ⟨N, ma, mi, T, es, is, ps⟩ := M
  dsimp only at *
  generalize es.length = le at *
  generalize is.length = li at *
  generalize ps.length = lp at *
  have HB : Hid (Below w.heap.size w ((w.alloc (.cells #[.string N, .int .i64 ma, .int .i64 mi, .string T, .slice pe le ke, .slice pi li ki, .slice pp lp kp] 31)).alloc (.cells #[.string name] 9))) := ((Below.refl _ _).alloc (Nat.le_refl _) _).alloc (by simp) _
  have HC : Hid (((w.alloc (.cells #[.string N, .int .i64 ma, .int .i64 mi, .string T, .slice pe le ke, .slice pi li ki, .slice pp lp kp] 31)).alloc (.cells #[.string name] 9)).cell? ⟨w.heap.size + 1, 0, none⟩ = some (.string name)) := by
    have := (CellsAt.new (w.alloc (.cells #[.string N, .int .i64 ma, .int .i64 mi, .string T, .slice pe le ke, .slice pi li ki, .slice pp lp kp] 31)) 9 #[.string name]).cell 0
    rw [World.size_alloc] at this
    exact this
  go_enter Tryz.func80, Tryz.ntmps80
  go_wp2_with fail
  refine (HA.out _ (w.heap.size + 1) HB.out (by simp) HC.out).mono ?_
  rintro e w2 ⟨rfl, b2⟩
  have B2 := HB.out.trans (b2.mono HB.out.size)
  clear HA HB HC b2
  go_wp2
  go_ret
  exact ⟨rfl, B2⟩

end Go.Proofs.YthmohjgdcjafkaeGreat

/- A row of numbers that is taken from ahead and appended to behind. -/
namespace Go.Proofs.YthmohjgdcjafkaeGreat
open Go.RowKit Go.PlainAid

set_option maxRecDepth 100000

def QRow (W : World) (base : Nat) (v : Value) (xs : List Nat) : Prop := ∃ g o cap cur, v = .slice (some ⟨g, o, none⟩) xs.length cap ∧ base ≤ g ∧ CellsAt W g 3 cur ∧ xs.length ≤ cap ∧ o + cap ≤ cur.size ∧ cap ≤ 9223372036854775807 ∧ ∀ (j x : Nat), xs[j]? = some x → cur[o + j]? = some (.int .i64 x)
theorem QRow.kept {W W' : World} {base : Nat} {v : Value} {xs : List Nat} {row : Option Nat} (h : QRow W base v xs) (hg : W.grownBy W' row) (hne : ∀ g, v.ownBlock = some g → some g ≠ row) : QRow W' base v xs := by
  obtain ⟨g, o, cap, cur, rfl, h1, h2, h3⟩ := h
  exact ⟨g, o, cap, cur, rfl, h1, h2.kept hg (hne g rfl), h3⟩
theorem QRow.below {W W' : World} {base n : Nat} {v : Value} {xs : List Nat} (h : QRow W base v xs) (hb : Below n W W') (hn : W.heap.size ≤ n) : QRow W' base v xs := by
  obtain ⟨g, o, cap, cur, rfl, h1, h2, h3⟩ := h
  exact ⟨g, o, cap, cur, rfl, h1, h2.below hb (Nat.lt_of_lt_of_le h2.lt hn), h3⟩
theorem QRow.base {W : World} {base : Nat} {v : Value} {xs : List Nat} (h : QRow W base v xs) : ∀ g, v.ownBlock = some g → base ≤ g ∧ g < W.heap.size := by
  obtain ⟨g, o, cap, cur, rfl, h1, h2, h3⟩ := h
  intro k hk
  have : g = k := by simpa [Value.ownBlock] using hk
  subst this
  exact ⟨h1, h2.lt⟩
theorem QRow.form {W : World} {base : Nat} {v : Value} {xs : List Nat} (h : QRow W base v xs) : ∃ g o cap, v = .slice (some ⟨g, o, none⟩) xs.length cap ∧ xs.length ≤ cap ∧ cap ≤ 9223372036854775807 ∧ g < W.heap.size := by
  obtain ⟨g, o, cap, cur, rfl, h1, h2, h3, h4, h5, _⟩ := h
  exact ⟨g, o, cap, rfl, h3, h5, h2.lt⟩
/-- The first one, and the rest. -/
theorem QRow.pop {W : World} {base g o cap : Nat} {x : Nat} {xs : List Nat} (h : QRow W base (.slice (some ⟨g, o, none⟩) (x :: xs).length cap) (x :: xs)) :
    W.cell? ⟨g, o, none⟩ = some (.int .i64 x) ∧ ∃ o2, (if cap = 1 then some (⟨g, o, none⟩ : Addr) else some ⟨g, o + 1, none⟩) = some ⟨g, o2, none⟩ ∧ QRow W base (.slice (some ⟨g, o2, none⟩) xs.length (cap - 1)) xs := by
  obtain ⟨g', o', cap', cur, he, h1, h2, h3, h4, h5, h6⟩ := h
  injection he with q1 q2 q3
  injection q1 with q1
  injection q1 with q1 q4
  subst q1 q3 q4
  have c0 := h2.cell o
  have h60 := h6 0 x rfl
  rw [Nat.add_zero] at h60
  refine ⟨c0.trans h60, ?_⟩
  simp at h3
  by_cases hc : cap = 1
  · obtain rfl : xs = [] := List.length_eq_zero_iff.1 (by omega)
    exact ⟨o, by rw [if_pos hc], g, o, cap - 1, cur, rfl, h1, h2, by simp, by omega, by omega, fun j y hj => by simp at hj⟩
  · refine ⟨o + 1, by rw [if_neg hc], g, o + 1, cap - 1, cur, rfl, h1, h2, by omega, by omega, by omega, fun j y hj => ?_⟩
    have := h6 (j + 1) y (by simpa using hj)
    rw [show o + 1 + j = o + (j + 1) by omega]
    exact this

theorem wpList_queue (w : World) {ops : Array Oper} {rest : List Oper} {o : Oper} {a : Act} {Q : Exit → Act → World → Prop}
    (hg : o.guard = none) (s x : Operand) (hop : o.op = Op.call { callee := Callee.builtin Builtin.append, args := #[s, x], argTypes := #[147, 147] })
    (base : Nat) (v : Value) (xs : List Nat) (hs : a.eval s = v) (hq : QRow w base v xs) (B : Nat) (y : Nat) (hx : a.eval x = .slice (some ⟨B, 0, none⟩) 1 1) (hB : w.cell? ⟨B, 0, none⟩ = some (.int .i64 y)) (hl : xs.length ≤ 1000) (hbase : base ≤ w.heap.size)
    (h : ∀ v' w', QRow w' base v' (xs ++ [y]) → w.grownBy w' v.ownBlock → (∀ k, v'.ownBlock = some k → v.ownBlock = some k ∨ w.heap.size ≤ k) → wpList Tryz.prog ops Q rest (a.put o.dst v') w') : wpList Tryz.prog ops Q (o :: rest) a w := by
  obtain ⟨ii, hii, hz0, hz1, hz2⟩ := infoInt_parts
  obtain ⟨g, of, cap, cur, rfl, h1, h2, h3, h4, h5, h6⟩ := hq
  refine wpList_append_arg (P := Tryz.prog) w hg s x 147 hop 3 ii (.int .i64 0) 1 8 Tryz.underlying147 hii hz0 hz1 hz2 rfl (by omega) g of xs.length cap (xs.map fun n : Nat => Value.int .i64 (n : Int)) hs (by simp) ?_ ⟨B, 0, none⟩ 1 1 [.int .i64 (y : Int)] hx rfl ?_ (by simp [Value.oneCell']) ?_ (by unfold maxLen; omega) (by omega) ?_ ?_
  · intro j u hj
    rw [List.getElem?_map] at hj
    obtain ⟨n, hn, rfl⟩ := Option.map_eq_some_iff.1 hj
    exact (h2.cell (of + j)).trans (h6 j n hn)
  · intro j u hj
    cases j with
    | zero =>
      simp at hj
      subst hj
      exact hB
    | succ j => simp at hj
  · intro hr j hj
    simp at hj
    subst hj
    refine ⟨?_, h2.frozen _⟩
    rw [h2.cell]
    have : of + xs.length * 1 + 0 < cur.size := by omega
    rw [Array.getElem?_eq_getElem this]
    rfl
  · intro hr
    have e1 : w.setCells g (of + xs.length * 1) [.int .i64 (y : Int)] = w.setCell ⟨g, of + xs.length, none⟩ (.int .i64 (y : Int)) := by simp [World.setCells]
    rw [e1]
    refine h _ _ ⟨g, of, cap, cur.setIfInBounds (of + xs.length) (.int .i64 (y : Int)), by simp, h1, h2.set _ _, by simp; omega, by simpa using h4, h5, ?_⟩ (grown_set _ _ _ _) (fun k hk => .inl hk)
    intro j n hj
    rw [Array.getElem?_setIfInBounds]
    by_cases hjl : j = xs.length
    · subst hjl
      rw [if_pos rfl, if_pos (by omega)]
      simp at hj
      rw [hj]
    · rw [if_neg (by omega)]
      have hj' : j < xs.length := by
        have := (List.getElem?_eq_some_iff.1 hj).1
        simp at this
        omega
      exact h6 j n (by rw [List.getElem?_append_left hj'] at hj; exact hj)
  · intro hr v' w' hown hgr
    refine h v' w' ?_ (hgr.but _) (fun k hk => .inr (own_block hown k hk))
    rcases hown.2 with ⟨_, h0⟩ | ⟨g', cap', cur', rfl, hg', hb', hn', hm', hs', ht'⟩
    · omega
    · refine ⟨g', 0, cap', cur', by simp, by omega, hb', by simp; omega, by omega, by unfold maxLen at hm'; omega, ?_⟩
      intro j n hj
      have hjl : j < xs.length + 1 := by
        have := (List.getElem?_eq_some_iff.1 hj).1
        simpa using this
      have e2 : (xs.map fun n : Nat => Value.int .i64 (n : Int)) ++ [.int .i64 (y : Int)] = (xs ++ [y]).map fun n : Nat => Value.int .i64 (n : Int) := by simp
      rw [e2] at ht'
      have h7 : ((xs ++ [y]).map fun n : Nat => Value.int .i64 (n : Int))[j]? = some (.int .i64 (n : Int)) := by rw [List.getElem?_map, hj]; rfl
      rw [← ht', List.getElem?_take, if_pos (by omega)] at h7
      rw [Nat.zero_add]
      simpa using h7

end Go.Proofs.YthmohjgdcjafkaeGreat
