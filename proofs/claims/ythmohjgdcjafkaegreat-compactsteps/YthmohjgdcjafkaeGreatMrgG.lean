/- Texts that are laid together. -/
import Derived.Test.YthmohjgdcjafkaeGreatProg
import Derived.Deep.RegionHeld3
import Derived.Deep.AppendLies
import Derived.Test.YthmohjgdcjafkaeGreatMrgF
import Derived.Test.YthmohjgdcjafkaeGreatMrgD
import Derived.Test.YthmohjgdcjafkaeGreatMrgE

/- A region that draws its order, and whose last operation writes what was read before: loads may be taken first under a condition that need not hold behind the last. -/
namespace Go.Proofs.YthmohjgdcjafkaeGreat


section
variable {P : Program} {ops : Array Oper} {Q : Exit → Act → World → Prop} {md : Region.Mode} {S : World → Prop}

/-- Whatever order is picked; S holds behind each operation but number x. -/
def wpL (P : Program) (md : Region.Mode) (ops : Array Oper) (Q : Exit → Act → World → Prop) (S : World → Prop) (x : Nat) : Nat → Array Bool → Act → World → Prop
  | 0, listed, a, w => Region.ready md ops listed = [] ∧ Q .normal a w
  | fuel + 1, listed, a, w =>
    (Region.ready md ops listed = [] → Q .normal a w) ∧
    ∀ i ∈ Region.ready md ops listed, wpOp P ops Q i (fun a' w' => (i ≠ x → S w') ∧ wpL P md ops Q S x fuel (listed.setIfInBounds i true) a' w') a w

theorem wpAny_of_L {x : Nat} : ∀ (fuel : Nat) (listed : Array Bool) (a : Act) (w : World), wpL P md ops Q S x fuel listed a w → wpAny P md ops Q fuel listed a w
  | 0, _, _, _, h => h
  | fuel + 1, _, _, _, h => ⟨h.1, fun i hi => wpOp_mono (fun a' w' h' => wpAny_of_L fuel _ a' w' h'.2) (h.2 i hi)⟩

/-- What has come up has come up behind all that it waits for. -/
def Closed (md : Region.Mode) (ops : Array Oper) (listed : Array Bool) : Prop := ∀ j o, listed.getD j false = true → ops[j]? = some o → ∀ e ∈ o.after, Region.binds md e = true → listed.getD e.on false = true

theorem Closed.set {listed : Array Bool} {j : Nat} (h : Closed md ops listed) (hj : j ∈ Region.ready md ops listed) : Closed md ops (listed.setIfInBounds j true) := by
  intro k o hk ho e he hb
  obtain ⟨_, oj, hoj, hall⟩ := mem_ready.1 hj
  by_cases hjk : j = k
  · subst hjk
    rw [hoj] at ho
    injection ho with ho
    subst ho
    exact getD_set_true (hall e he hb)
  · rw [getD_set_ne false hjk] at hk
    exact getD_set_true (h k o hk ho e he hb)

/-- Each operation ahead of x is waited for by a later one, up to x. -/
def Covers (md : Region.Mode) (ops : Array Oper) (x : Nat) : Prop := ∀ k, k < x → ∃ j o e, k < j ∧ j ≤ x ∧ ops[j]? = some o ∧ e ∈ o.after ∧ Region.binds md e = true ∧ e.on = k

theorem covers_all {x : Nat} {listed : Array Bool} (hc : Covers md ops x) (hl : Closed md ops listed) (hx : x ∈ Region.ready md ops listed) : ∀ k, k < x → listed.getD k false = true := by
  obtain ⟨_, ox, hox, hall⟩ := mem_ready.1 hx
  have key : ∀ m k, x - k ≤ m → k < x → listed.getD k false = true := by
    intro m
    induction m with
    | zero => intro k h1 h2; omega
    | succ m ih =>
      intro k h1 h2
      obtain ⟨j, o, e, h3, h4, h5, h6, h7, rfl⟩ := hc k h2
      by_cases hjx : j = x
      · subst hjx
        rw [hox] at h5
        injection h5 with h5
        subst h5
        exact hall e h6 h7
      · exact hl j o (ih j (by omega) (by omega)) h5 e h6 h7
  exact fun k hk => key (x - k) k (Nat.le_refl _) hk

theorem wpL_first {i x : Nat} {oi : Oper} {v : Value} (hi : ops[i]? = some oi) (hsel : ∀ (j : Nat) (o : Oper) cs b, ops[j]? = some o → o.op ≠ .select cs b)
    (hQ : ∀ c a w, Q (.panic c) (a.put oi.dst v) w → Q (.panic c) a w) (hc : Covers md ops x) (hix : i < x) :
    ∀ (fuel : Nat) (listed : Array Bool) (a : Act) (w : World),
      (∀ j oj, ops[j]? = some oj → j ≠ i → listed.getD j true = false → (∀ e ∈ oj.after, Region.binds md e = true → e.on ≠ i) → oi.apart ops oj = true) →
      Closed md ops listed → i ∈ Region.ready md ops listed → YieldsIf P ops S oi v a → S w →
      wpL P md ops Q S x fuel (listed.setIfInBounds i true) (a.put oi.dst v) w → wpL P md ops Q S x (fuel + 1) listed a w := by
  intro fuel
  induction fuel with
  | zero =>
    intro listed a w _ _ hr hy hS H
    refine ⟨fun h => (by rw [h] at hr; cases hr), fun j hj => ?_⟩
    by_cases hji : j = i
    · subst hji; exact hy.wpOp hi hS ⟨fun _ => hS, H⟩
    · have := ready_mono hj hji
      rw [H.1] at this
      cases this
  | succ fuel ih =>
    intro listed a w hfree hcl hr hy hS H
    refine ⟨fun h => (by rw [h] at hr; cases hr), fun j hj => ?_⟩
    by_cases hji : j = i
    · subst hji; exact hy.wpOp hi hS ⟨fun _ => hS, H⟩
    · have hi0 : listed.getD i true = false := (mem_ready.1 hr).1
      have hi1 : listed.getD i false = false := by
        rcases Nat.lt_or_ge i listed.size with h' | h'
        · simpa [h'] using hi0
        · simp [Array.getElem?_eq_none h'] at hi0
      have hjx : j ≠ x := fun e => by
        subst e
        have := covers_all hc hcl hj i hix
        rw [hi1] at this
        cases this
      have h1 := H.2 j (ready_mono hj hji)
      obtain ⟨hjun, oj, hoj, hall⟩ := mem_ready.1 hj
      have hnot : ∀ e ∈ oj.after, Region.binds md e = true → e.on ≠ i := fun e he hb heq => by
        have h2 := hall e he hb
        rw [heq, hi1] at h2
        cases h2
      have h2 := wpOp_putIf hoj (hfree j oj hoj hji hjun hnot) (fun cs b => hsel i oi cs b hi) (fun cs b => hsel j oj cs b hoj) hQ hy h1
      have hfree' : ∀ k ok, ops[k]? = some ok → k ≠ i → (listed.setIfInBounds j true).getD k true = false →
          (∀ e ∈ ok.after, Region.binds md e = true → e.on ≠ i) → oi.apart ops ok = true := fun k ok hk hki hun hno => by
        refine hfree k ok hk hki ?_ hno
        by_cases hjk : j = k
        · subst hjk; exact hjun
        · rw [getD_set_ne true hjk] at hun; exact hun
      refine wpOp_mono (fun a' w' h3 => ⟨h3.2.1, ih (listed.setIfInBounds j true) a' w' hfree' (hcl.set hj) (ready_mono hr (Ne.symm hji)) h3.1 (h3.2.1 hjx) ?_⟩) h2
      rw [Array.setIfInBounds_comm _ _ hji]
      exact h3.2.2

def closedB (md : Region.Mode) (ops : Array Oper) (listed : Array Bool) : Bool :=
  (List.range listed.size).all fun j => !listed.getD j false || ((ops[j]?).map (·.after.all fun e => !Region.binds md e || listed.getD e.on false)).getD true
theorem closedB_spec {listed : Array Bool} (h : closedB md ops listed = true) : Closed md ops listed := by
  intro j o hj ho e he hb
  have hlt : j < listed.size := by
    rcases Nat.lt_or_ge j listed.size with h' | h'
    · exact h'
    · simp [Array.getElem?_eq_none h'] at hj
  simp only [closedB, List.all_eq_true, List.mem_range] at h
  have h1 := h j hlt
  rw [hj, ho] at h1
  simp only [Bool.not_true, Bool.false_or, Option.map_some, Option.getD_some, Array.all_eq_true_iff_forall_mem] at h1
  have h2 := h1 e he
  rw [hb] at h2
  simpa using h2
def coversB (md : Region.Mode) (ops : Array Oper) (x : Nat) : Bool :=
  (List.range x).all fun k => (List.range (x + 1)).any fun j => decide (k < j) && ((ops[j]?).map (·.after.any fun e => Region.binds md e && e.on == k)).getD false
theorem coversB_spec {x : Nat} (h : coversB md ops x = true) : Covers md ops x := by
  intro k hk
  simp only [coversB, List.all_eq_true, List.mem_range] at h
  have h1 := h k hk
  simp only [List.any_eq_true, List.mem_range, Bool.and_eq_true, decide_eq_true_eq] at h1
  obtain ⟨j, hj, hkj, hh⟩ := h1
  cases ho : ops[j]? with
  | none => rw [ho] at hh; simp at hh
  | some o =>
    rw [ho] at hh
    simp only [Option.map_some, Option.getD_some] at hh
    obtain ⟨e, he, hb⟩ := Array.any_eq_true'.1 hh
    simp only [Bool.and_eq_true, beq_iff_eq] at hb
    exact ⟨j, o, e, hkj, by omega, ho, he, hb.1, hb.2⟩

/-- Number i is taken first. -/
theorem wpL_take (i : Nat) {x : Nat} (d : Nat) (v : Value) {oi : Oper} {fuel : Nat} {listed : Array Bool} {tm : Array Value} {df : List Deferred} {w : World} (hi : ops[i]? = some oi)
    (hb : (Region.noSelect ops && (Region.free md ops listed i && ((Region.ready md ops listed).contains i && (closedB md ops listed && (coversB md ops x && decide (i < x)))))) = true)
    (hQ : ∀ c a w, Q (.panic c) (a.put oi.dst v) w → Q (.panic c) a w) (hS : S w) (hd : oi.dst = some d) (hg : oi.guard = none) (hy : ∀ w, S w → (execOp (Act.eval ⟨tm, df⟩) oi).run P w = .ok (.value v) w)
    (h : wpL P md ops Q S x fuel (listed.setIfInBounds i true) ⟨tm.setIfInBounds d v, df⟩ w) : wpL P md ops Q S x (fuel + 1) listed ⟨tm, df⟩ w := by
  simp only [Bool.and_eq_true, decide_eq_true_eq] at hb
  obtain ⟨h1, h2, h3, h4, h5, h6⟩ := hb
  refine wpL_first hi (Region.noSelect_spec h1) hQ (coversB_spec h5) h6 fuel listed ⟨tm, df⟩ w (Region.free_spec hi h2) (closedB_spec h4) (by simpa using h3) (.inl ⟨by simp [Region.wanted, hg], hy⟩) hS ?_
  rw [hd]
  exact h

/-- Number i alone may come up. -/
theorem wpL_step {i x : Nat} {o : Oper} {fuel : Nat} {listed : Array Bool} {a : Act} {w : World} (ho : ops[i]? = some o) (hr : Region.ready md ops listed = [i])
    (h : ∀ K' : Act → World → Prop, Shut (∀ a w, S w → (S w → wpL P md ops Q S x fuel (listed.setIfInBounds i true) a w) → K' a w) → if Region.wanted o (yielded ops a.tmps) = true then Oper.wp P o a w K' Q else K' (a.put o.dst undef) w) :
    wpL P md ops Q S x (fuel + 1) listed a w := by
  refine ⟨fun h0 => (by rw [hr] at h0; cases h0), fun j hj => ?_⟩
  rw [hr] at hj
  obtain rfl : j = i := by simpa using hj
  exact wpOp_step ho (fun K' hK => h K' (fun a w hS hW => hK a w ⟨fun _ => hS, hW hS⟩))

/-- One of two comes up. -/
theorem wpL_two {i j x : Nat} {o p : Oper} {fuel : Nat} {listed : Array Bool} {a : Act} {w : World} (ho : ops[i]? = some o) (hp : ops[j]? = some p) (hr : Region.ready md ops listed = [i, j])
    (h : ∀ K' : Act → World → Prop, Shut (∀ a w, S w → (S w → wpL P md ops Q S x fuel (listed.setIfInBounds i true) a w) → K' a w) → if Region.wanted o (yielded ops a.tmps) = true then Oper.wp P o a w K' Q else K' (a.put o.dst undef) w)
    (h2 : ∀ K' : Act → World → Prop, Shut (∀ a w, S w → (S w → wpL P md ops Q S x fuel (listed.setIfInBounds j true) a w) → K' a w) → if Region.wanted p (yielded ops a.tmps) = true then Oper.wp P p a w K' Q else K' (a.put p.dst undef) w) :
    wpL P md ops Q S x (fuel + 1) listed a w := by
  refine ⟨fun h0 => (by rw [hr] at h0; cases h0), fun k hk => ?_⟩
  rw [hr] at hk
  rcases List.mem_cons.1 hk with rfl | hk
  · exact wpOp_step ho (fun K' hK => h K' (fun a w hS hW => hK a w ⟨fun _ => hS, hW hS⟩))
  · obtain rfl : k = j := by simpa using hk
    exact wpOp_step hp (fun K' hK => h2 K' (fun a w hS hW => hK a w ⟨fun _ => hS, hW hS⟩))

/-- The last one. -/
theorem wpL_last {x : Nat} {o : Oper} {fuel : Nat} {listed : Array Bool} {a : Act} {w : World} (ho : ops[x]? = some o) (hr : Region.ready md ops listed = [x]) (hr2 : Region.ready md ops (listed.setIfInBounds x true) = [])
    (h : ∀ K' : Act → World → Prop, Shut (∀ a w, Q .normal a w → K' a w) → if Region.wanted o (yielded ops a.tmps) = true then Oper.wp P o a w K' Q else K' (a.put o.dst undef) w) :
    wpL P md ops Q S x (fuel + 1) listed a w := by
  refine ⟨fun h0 => (by rw [hr] at h0; cases h0), fun j hj => ?_⟩
  rw [hr] at hj
  obtain rfl : j = x := by simpa using hj
  refine wpOp_step ho (fun K' hK => h K' (fun a w hq => hK a w ⟨fun h => absurd rfl h, ?_⟩))
  cases fuel with
  | zero => exact ⟨hr2, hq⟩
  | succ n => exact ⟨fun _ => hq, by rw [hr2]; simp⟩

/-- The beginning. -/
theorem wp_region_L {x : Nat} {id : Nat} {a : Act} {w : World} (hm : P.follows .mixedOrders = true)
    (h : wpL P .any ops Q S x ops.size (Array.replicate ops.size false) a w.drew) : (Code.region id ops true).wp P Q a w :=
  wp_region_any hm (wpAny_of_L _ _ _ _ h)

end

end Go.Proofs.YthmohjgdcjafkaeGreat

/- The contracts of resolve.meant and its function. -/
namespace Go.Proofs.YthmohjgdcjafkaeGreat
open Go.RowKit Go.PlainAid

set_option maxRecDepth 100000

set_option maxHeartbeats 1000000 in
theorem addr_any (fi : Int) (w : World) (g0 : 0 ≤ fi) (g1 : fi ≤ 15) : Calls Tryz.prog 182 #[.int .i64 fi] w fun e w' => e = .returned (.int .i64 (4096 + fi * 64)) ∧ w' = w := by
  go_enter Tryz.func182, Tryz.ntmps182
  go_wp2
  go_ret
  exact ⟨rfl, rfl⟩

set_option maxHeartbeats 1000000 in
theorem isNamed_any (B : Nat) (name : ByteArray) (x : PV) (w : World) (hlt : B < w.heap.size) (hB : w.cell? ⟨B, 0, none⟩ = some (.string name)) :
    Calls Tryz.prog 204 #[x.val, .pointer (some ⟨B, 0, none⟩)] w fun e w' => e = .returned (.bool (x.mod.name == name)) ∧ Below w.heap.size w w' := by
  rw [← toList_beq2]
  obtain ⟨⟨N, ma, mi, T, es, is, ps⟩, ve, vi, vp, fi⟩ := x
  dsimp only [PV.val]
  go_enter Tryz.func204, Tryz.ntmps204
  go_wp2
  go_ret
  exact ⟨rfl, (Below.refl _ _).alloc (Nat.le_refl _) _⟩

set_option maxHeartbeats 1000000 in
theorem isCalled_any (B : Nat) (name : ByteArray) (x : Exp) (w : World) (hlt : B < w.heap.size) (hB : w.cell? ⟨B, 1, none⟩ = some (.string name)) :
    Calls Tryz.prog 181 #[.agg #[.string x.name, .int .i64 x.pos], .pointer (some ⟨B, 0, none⟩)] w fun e w' => e = .returned (.bool (x.name == name)) ∧ Below w.heap.size w w' := by
  rw [← toList_beq2]
  obtain ⟨N, ps⟩ := x
  dsimp only
  go_enter Tryz.func181, Tryz.ntmps181
  go_wp2
  go_ret
  exact ⟨rfl, (Below.refl _ _).alloc (Nat.le_refl _) _⟩

def TgtV (n₀ : Nat) (W : World) (r : Value) : Option Tgt → Prop
  | none => r = .tuple #[.agg #[.int .i64 0, .int .i64 0, .int .i64 0, .slice none 0 0], .bool false]
  | some t => ∃ ve, r = .tuple #[.agg #[.int .i64 t.major, .int .i64 t.minor, .int .i64 t.beg, ve], .bool true] ∧ RowOf 2 Exp.cell n₀ W ve t.exps

theorem tgt_cases (K : Ker) (l : List PV) (name : ByteArray) : ((name == kernelName) = true ∧ tgtOf K (l.map PV.plc) name = some ⟨K.major, K.minor, 0, K.exps⟩) ∨
    ((name == kernelName) = false ∧ (l.find? (fun x => x.mod.name == name) = none ∧ tgtOf K (l.map PV.plc) name = none ∨ ∃ x, l.find? (fun x => x.mod.name == name) = some x ∧ tgtOf K (l.map PV.plc) name = some ⟨x.mod.major, x.mod.minor, 4096 + x.first * 64, x.mod.exps⟩)) := by
  unfold tgtOf
  cases h : name == kernelName
  · refine .inr ⟨rfl, ?_⟩
    rw [if_neg (by decide), List.find?_map]
    have e : ((fun p : Plc => p.mod.name == name) ∘ PV.plc) = fun x : PV => x.mod.name == name := rfl
    rw [e]
    cases hf : l.find? (fun x => x.mod.name == name) with
    | none => exact .inl ⟨rfl, rfl⟩
    | some x => exact .inr ⟨x, rfl, rfl⟩
  · exact .inl ⟨rfl, by rw [if_pos rfl]⟩

set_option maxHeartbeats 2000000 in
theorem meant_any (K : Ker) (vk : Value) (l : List PV) (v : Value) (name : ByteArray) (w : World) (hK : IsKer w.heap.size w vk K) (hrow : IsPlcs w.heap.size w v l) (hfst : ∀ x ∈ l, 0 ≤ x.first ∧ x.first ≤ 15) :
    Calls Tryz.prog 179 #[vk, v, .string name] w fun e w' => (∃ r, e = .returned r ∧ TgtV w.heap.size w r (tgtOf K (l.map PV.plc) name)) ∧ Below w.heap.size w w' := by
  obtain ⟨vke, rfl, hE⟩ := hK
  have hE0 := hE
  obtain ⟨pe, ke, rfl, _, _⟩ := hE
  have HF : Hid (∀ W B, Below w.heap.size w W → B < W.heap.size → W.cell? ⟨B, 0, none⟩ = some (.string name) → Calls Tryz.prog 203 #[v, .func (.func 204) #[] #[.pointer (some ⟨B, 0, none⟩)]] W fun e w' => e = .returned (optPlc (l.find? fun x => x.mod.name == name)) ∧ Below W.heap.size W w') := by
    intro W B hb hlt hB
    exact firstPlc_any l v 204 (.pointer (some ⟨B, 0, none⟩)) (fun w x => enters_of Tryz.func204 (by kernel_rfl) rfl _ w) _ W ((hrow.below hb).more hb.size) (fun x _ W' hb' => isNamed_any B name x W' (Nat.lt_of_lt_of_le hlt hb'.size) ((hb'.cell (p := ⟨B, 0, none⟩) hlt).trans hB))
  have hat := hrow.2
  obtain ⟨⟨a, cap, rfl, _, _⟩, _⟩ := hrow
  rcases tgt_cases K l name with ⟨h1, h2⟩ | ⟨h1, ⟨h2, h3⟩ | ⟨x, h2, h3⟩⟩
  · rw [h2]
    rw [← kern_form] at h1
    obtain ⟨ma, mi, es⟩ := K
    dsimp only at *
    clear HF hat
    go_enter Tryz.func179, Tryz.ntmps179
    go_wp2
    (try simp only [Exit.inBlock, Exit.then])
    have hF : CellsAt (((w.alloc (.cells #[.int .i64 ma, .int .i64 mi, .slice pe es.length ke] 24)).alloc (.cells #[.string name] 9)).alloc (.cells #[.int .i64 ma, .int .i64 mi, .int .i64 0, .slice pe es.length ke] 212)) (w.heap.size + 1 + 1) 212 #[.int .i64 ma, .int .i64 mi, .int .i64 0, .slice pe es.length ke] := by
      have := CellsAt.new ((w.alloc (.cells #[.int .i64 ma, .int .i64 mi, .slice pe es.length ke] 24)).alloc (.cells #[.string name] 9)) 212 #[.int .i64 ma, .int .i64 mi, .int .i64 0, .slice pe es.length ke]
      rw [World.size_alloc, World.size_alloc] at this
      exact this
    refine bodyPost_ret (results_cell_tmp_row rfl _ _ _ _ _ _ _ rfl hF Tryz.underlying212 rfl (by kernel_rfl)) rfl ?_
    exact ⟨⟨_, rfl, _, rfl, hE0⟩, (((Below.refl _ _).alloc (Nat.le_refl _) _).alloc (by simp) _).alloc (by simp; omega) _⟩
  · rw [h3]
    rw [h2] at HF
    rw [← kern_form] at h1
    obtain ⟨ma, mi, es⟩ := K
    dsimp only [optPlc] at *
    clear hat
    have HN : Hid ((((w.alloc (.cells #[.int .i64 ma, .int .i64 mi, .slice pe es.length ke] 24)).alloc (.cells #[.string name] 9)).alloc (.cells #[.int .i64 0, .int .i64 0, .int .i64 0, .slice none 0 0] 212)).cell? ⟨w.heap.size + 1, 0, none⟩ = some (.string name)) := by
      have := (CellsAt.new (w.alloc (.cells #[.int .i64 ma, .int .i64 mi, .slice pe es.length ke] 24)) 9 #[.string name]).kept (World.grownBy_alloc _ (.cells #[.int .i64 0, .int .i64 0, .int .i64 0, .slice none 0 0] 212) none) (by simp)
      rw [World.size_alloc] at this
      exact this.cell 0
    have HC3 : Hid (CellsAt (((w.alloc (.cells #[.int .i64 ma, .int .i64 mi, .slice pe es.length ke] 24)).alloc (.cells #[.string name] 9)).alloc (.cells #[.int .i64 0, .int .i64 0, .int .i64 0, .slice none 0 0] 212)) (w.heap.size + 1 + 1) 212 #[.int .i64 0, .int .i64 0, .int .i64 0, .slice none 0 0]) := by
      have := CellsAt.new ((w.alloc (.cells #[.int .i64 ma, .int .i64 mi, .slice pe es.length ke] 24)).alloc (.cells #[.string name] 9)) 212 #[.int .i64 0, .int .i64 0, .int .i64 0, .slice none 0 0]
      rw [World.size_alloc, World.size_alloc] at this
      exact this
    have HB3 : Hid (Below w.heap.size w (((w.alloc (.cells #[.int .i64 ma, .int .i64 mi, .slice pe es.length ke] 24)).alloc (.cells #[.string name] 9)).alloc (.cells #[.int .i64 0, .int .i64 0, .int .i64 0, .slice none 0 0] 212))) := (((Below.refl _ _).alloc (Nat.le_refl _) _).alloc (by simp) _).alloc (by simp; omega) _
    go_enter Tryz.func179, Tryz.ntmps179
    go_wp2_with fail
    refine (HF.out _ _ (((Below.refl _ _).alloc (Nat.le_refl _) _).alloc (by simp) _ |>.alloc (by simp; omega) _) (by simp) HN.out).mono ?_
    rintro e w4 ⟨rfl, b4⟩
    have C4 := HC3.out.below b4 (by simp)
    have B4 := HB3.out.trans (b4.mono HB3.out.size)
    have hz4 := C4.lt
    have t0 := C4.cell 0
    have t1 := C4.cell 1
    have t2 := C4.cell 2
    have t3 := C4.cell 3
    have f0 := C4.frozen 0
    have f1 := C4.frozen 1
    have f2 := C4.frozen 2
    have f3 := C4.frozen 3
    simp at t0 t1 t2 t3
    clear b4 HF HC3 HB3 HN
    go_wp2
    (try simp only [Exit.inBlock, Exit.then])
    have hF : CellsAt (((((w4.setCell ⟨w.heap.size + 1 + 1, 0, none⟩ (.int .i64 0)).setCell ⟨w.heap.size + 1 + 1, 1, none⟩ (.int .i64 0)).setCell ⟨w.heap.size + 1 + 1, 2, none⟩ (.int .i64 0)).setCell ⟨w.heap.size + 1 + 1, 3, none⟩ (.slice none 0 0)).alloc (.cells #[.string ⟨#[]⟩, .int .i64 0, .int .i64 0, .string ⟨#[]⟩, .slice none 0 0, .slice none 0 0, .slice none 0 0, .int .i64 0] 54)) (w.heap.size + 1 + 1) 212 #[.int .i64 0, .int .i64 0, .int .i64 0, .slice none 0 0] := CellsAt.kept ((((C4.set 0 (.int .i64 0)).set 1 (.int .i64 0)).set 2 (.int .i64 0)).set 3 (.slice none 0 0)) (World.grownBy_alloc _ _ none) (by simp)
    refine bodyPost_ret (results_cell_tmp_row rfl _ _ _ _ _ _ _ rfl hF Tryz.underlying212 rfl (by kernel_rfl)) rfl ?_
    exact ⟨⟨_, rfl, rfl⟩, ((((B4.setCell (by simp; omega) _).setCell (by simp; omega) _).setCell (by simp; omega) _).setCell (by simp; omega) _).alloc (by simp; omega) _⟩
  · rw [h3]
    rw [h2] at HF
    rw [← kern_form] at h1
    have hx := List.mem_of_find?_eq_some h2
    obtain ⟨g0, g1⟩ := hfst x hx
    have hE1 := (hat x hx).1
    obtain ⟨⟨qe, je, e4, _⟩, ⟨qi, ji, e5, _⟩, ⟨qp, jp, e6, _⟩⟩ := hat x hx
    obtain ⟨⟨N, xa, xi, T, xs, is, ps⟩, ve, vi, vp, fi⟩ := x
    obtain ⟨ma, mi, es⟩ := K
    dsimp only [optPlc, PV.val] at *
    subst e4 e5 e6
    clear hat h2 h3 hx
    generalize is.length = li at *
    generalize ps.length = lp at *
    have HN : Hid ((((w.alloc (.cells #[.int .i64 ma, .int .i64 mi, .slice pe es.length ke] 24)).alloc (.cells #[.string name] 9)).alloc (.cells #[.int .i64 0, .int .i64 0, .int .i64 0, .slice none 0 0] 212)).cell? ⟨w.heap.size + 1, 0, none⟩ = some (.string name)) := by
      have := (CellsAt.new (w.alloc (.cells #[.int .i64 ma, .int .i64 mi, .slice pe es.length ke] 24)) 9 #[.string name]).kept (World.grownBy_alloc _ (.cells #[.int .i64 0, .int .i64 0, .int .i64 0, .slice none 0 0] 212) none) (by simp)
      rw [World.size_alloc] at this
      exact this.cell 0
    have HC3 : Hid (CellsAt (((w.alloc (.cells #[.int .i64 ma, .int .i64 mi, .slice pe es.length ke] 24)).alloc (.cells #[.string name] 9)).alloc (.cells #[.int .i64 0, .int .i64 0, .int .i64 0, .slice none 0 0] 212)) (w.heap.size + 1 + 1) 212 #[.int .i64 0, .int .i64 0, .int .i64 0, .slice none 0 0]) := by
      have := CellsAt.new ((w.alloc (.cells #[.int .i64 ma, .int .i64 mi, .slice pe es.length ke] 24)).alloc (.cells #[.string name] 9)) 212 #[.int .i64 0, .int .i64 0, .int .i64 0, .slice none 0 0]
      rw [World.size_alloc, World.size_alloc] at this
      exact this
    have HB3 : Hid (Below w.heap.size w (((w.alloc (.cells #[.int .i64 ma, .int .i64 mi, .slice pe es.length ke] 24)).alloc (.cells #[.string name] 9)).alloc (.cells #[.int .i64 0, .int .i64 0, .int .i64 0, .slice none 0 0] 212))) := (((Below.refl _ _).alloc (Nat.le_refl _) _).alloc (by simp) _).alloc (by simp; omega) _
    go_enter Tryz.func179, Tryz.ntmps179
    go_wp2_with fail
    refine (HF.out _ _ (((Below.refl _ _).alloc (Nat.le_refl _) _).alloc (by simp) _ |>.alloc (by simp; omega) _) (by simp) HN.out).mono ?_
    rintro e w4 ⟨rfl, b4⟩
    have C4 := HC3.out.below b4 (by simp)
    have B4 := HB3.out.trans (b4.mono HB3.out.size)
    have hz4 := C4.lt
    have t0 := C4.cell 0
    have t1 := C4.cell 1
    have t2 := C4.cell 2
    have t3 := C4.cell 3
    have f0 := C4.frozen 0
    have f1 := C4.frozen 1
    have f2 := C4.frozen 2
    have f3 := C4.frozen 3
    simp at t0 t1 t2 t3
    clear b4 HF HC3 HB3 HN t0 t1 t2 t3 f0 f1 f2 f3
    go_wp2_with fail
    refine wp_region_noPanic ?_
    refine wp_region_L (S := fun w' => w'.cell? ⟨w4.heap.size, 1, none⟩ = some (.int .i64 xa) ∧ w'.cell? ⟨w4.heap.size, 2, none⟩ = some (.int .i64 xi) ∧ w'.cell? ⟨w4.heap.size, 7, none⟩ = some (.int .i64 fi) ∧ w'.cell? ⟨w4.heap.size, 4, none⟩ = some (.slice qe xs.length je)) (x := 14) (by kernel_rfl) ?_
    have C5' : CellsAt (w4.alloc (.cells #[.string N, .int .i64 xa, .int .i64 xi, .string T, .slice qe xs.length je, .slice qi li ji, .slice qp lp jp, .int .i64 fi] 54)) (w.heap.size + 1 + 1) 212 #[.int .i64 0, .int .i64 0, .int .i64 0, .slice none 0 0] := C4.kept (World.grownBy_alloc w4 (.cells #[.string N, .int .i64 xa, .int .i64 xi, .string T, .slice qe xs.length je, .slice qi li ji, .slice qp lp jp, .int .i64 fi] 54) none) (by simp)
    have C5 : CellsAt (w4.alloc (.cells #[.string N, .int .i64 xa, .int .i64 xi, .string T, .slice qe xs.length je, .slice qi li ji, .slice qp lp jp, .int .i64 fi] 54)).drew (w.heap.size + 1 + 1) 212 #[.int .i64 0, .int .i64 0, .int .i64 0, .slice none 0 0] := C5'
    clear C5'
    have P5 : CellsAt (w4.alloc (.cells #[.string N, .int .i64 xa, .int .i64 xi, .string T, .slice qe xs.length je, .slice qi li ji, .slice qp lp jp, .int .i64 fi] 54)).drew w4.heap.size 54 #[.string N, .int .i64 xa, .int .i64 xi, .string T, .slice qe xs.length je, .slice qi li ji, .slice qp lp jp, .int .i64 fi] := CellsAt.new w4 54 #[.string N, .int .i64 xa, .int .i64 xi, .string T, .slice qe xs.length je, .slice qi li ji, .slice qp lp jp, .int .i64 fi]
    have B5 : Below w.heap.size w (w4.alloc (.cells #[.string N, .int .i64 xa, .int .i64 xi, .string T, .slice qe xs.length je, .slice qi li ji, .slice qp lp jp, .int .i64 fi] 54)).drew := (B4.alloc B4.size _).drew
    have s5 : w4.heap.size < (w4.alloc (.cells #[.string N, .int .i64 xa, .int .i64 xi, .string T, .slice qe xs.length je, .slice qi li ji, .slice qp lp jp, .int .i64 fi] 54)).drew.heap.size := P5.lt
    generalize (w4.alloc (.cells #[.string N, .int .i64 xa, .int .i64 xi, .string T, .slice qe xs.length je, .slice qi li ji, .slice qp lp jp, .int .i64 fi] 54)).drew = w5 at C5 P5 B5 s5 ⊢
    have hS0 : w5.cell? ⟨w4.heap.size, 1, none⟩ = some (.int .i64 xa) ∧ w5.cell? ⟨w4.heap.size, 2, none⟩ = some (.int .i64 xi) ∧ w5.cell? ⟨w4.heap.size, 7, none⟩ = some (.int .i64 fi) ∧ w5.cell? ⟨w4.heap.size, 4, none⟩ = some (.slice qe xs.length je) := ⟨P5.cell 1, P5.cell 2, P5.cell 7, P5.cell 4⟩
    refine wpL_take 0 28 (.pointer (some ⟨w4.heap.size, 0, none⟩)) rfl (by kernel_rfl) (fun _ _ _ h => h) hS0 rfl rfl (fun w' hSw => by (try dsimp only at hSw); go_simp) ?_
    simp only [List.setIfInBounds_toArray, List.set_cons_zero, List.set_cons_succ]
    refine wpL_take 1 29 (.pointer (some ⟨w4.heap.size, 1, none⟩)) rfl (by kernel_rfl) (fun _ _ _ h => h) hS0 rfl rfl (fun w' hSw => by (try dsimp only at hSw); go_simp) ?_
    simp only [List.setIfInBounds_toArray, List.set_cons_zero, List.set_cons_succ]
    refine wpL_take 2 30 (.int .i64 xa) rfl (by kernel_rfl) (fun _ _ _ h => h) hS0 rfl rfl (fun w' hSw => by (try dsimp only at hSw); go_simp) ?_
    simp only [List.setIfInBounds_toArray, List.set_cons_zero, List.set_cons_succ]
    refine wpL_take 3 31 (.pointer (some ⟨w4.heap.size, 0, none⟩)) rfl (by kernel_rfl) (fun _ _ _ h => h) hS0 rfl rfl (fun w' hSw => by (try dsimp only at hSw); go_simp) ?_
    simp only [List.setIfInBounds_toArray, List.set_cons_zero, List.set_cons_succ]
    refine wpL_take 4 32 (.pointer (some ⟨w4.heap.size, 2, none⟩)) rfl (by kernel_rfl) (fun _ _ _ h => h) hS0 rfl rfl (fun w' hSw => by (try dsimp only at hSw); go_simp) ?_
    simp only [List.setIfInBounds_toArray, List.set_cons_zero, List.set_cons_succ]
    refine wpL_take 5 33 (.int .i64 xi) rfl (by kernel_rfl) (fun _ _ _ h => h) hS0 rfl rfl (fun w' hSw => by (try dsimp only at hSw); go_simp) ?_
    simp only [List.setIfInBounds_toArray, List.set_cons_zero, List.set_cons_succ]
    refine wpL_take 6 34 (.pointer (some ⟨w4.heap.size, 7, none⟩)) rfl (by kernel_rfl) (fun _ _ _ h => h) hS0 rfl rfl (fun w' hSw => by (try dsimp only at hSw); go_simp) ?_
    simp only [List.setIfInBounds_toArray, List.set_cons_zero, List.set_cons_succ]
    refine wpL_take 7 35 (.int .i64 fi) rfl (by kernel_rfl) (fun _ _ _ h => h) hS0 rfl rfl (fun w' hSw => by (try dsimp only at hSw); go_simp) ?_
    simp only [List.setIfInBounds_toArray, List.set_cons_zero, List.set_cons_succ]
    refine wpL_take 9 37 (.pointer (some ⟨w4.heap.size, 0, none⟩)) rfl (by kernel_rfl) (fun _ _ _ h => h) hS0 rfl rfl (fun w' hSw => by (try dsimp only at hSw); go_simp) ?_
    simp only [List.setIfInBounds_toArray, List.set_cons_zero, List.set_cons_succ]
    refine wpL_take 10 38 (.pointer (some ⟨w4.heap.size, 4, none⟩)) rfl (by kernel_rfl) (fun _ _ _ h => h) hS0 rfl rfl (fun w' hSw => by (try dsimp only at hSw); go_simp) ?_
    simp only [List.setIfInBounds_toArray, List.set_cons_zero, List.set_cons_succ]
    refine wpL_take 11 39 (.slice qe xs.length je) rfl (by kernel_rfl) (fun _ _ _ h => h) hS0 rfl rfl (fun w' hSw => by (try dsimp only at hSw); go_simp) ?_
    simp only [List.setIfInBounds_toArray, List.set_cons_zero, List.set_cons_succ]
    refine wpL_step (i := 8) rfl (by kernel_rfl) (fun K hK => ?_)
    go_simp
    refine (addr_any fi w5 g0 g1).mono ?_
    rintro e w6 ⟨rfl, rfl⟩
    go_simp
    refine hK.out _ _ hS0 (fun _ => ?_)
    clear hK K
    refine wpL_take 12 40 (.agg #[.int .i64 xa, .int .i64 xi, .int .i64 (4096 + fi * 64), .slice qe xs.length je]) rfl (by kernel_rfl) (fun _ _ _ h => h) hS0 rfl rfl (fun w' hSw => by (try dsimp only at hSw); go_simp) ?_
    simp only [List.setIfInBounds_toArray, List.set_cons_zero, List.set_cons_succ]
    have t0 := C5.cell 0
    have t1 := C5.cell 1
    have t2 := C5.cell 2
    have t3 := C5.cell 3
    have f0 := C5.frozen 0
    have f1 := C5.frozen 1
    have f2 := C5.frozen 2
    have f3 := C5.frozen 3
    simp at t0 t1 t2 t3
    refine wpL_step (i := 13) rfl (by kernel_rfl) (fun K hK => ?_)
    go_simp
    have hne : some w4.heap.size ≠ some (w.heap.size + 1 + 1) := fun e => by
      injection e with e
      omega
    have P6 := (((P5.kept (grown_set w6 (w.heap.size + 1 + 1) 0 (.int .i64 xa)) hne).kept (grown_set _ (w.heap.size + 1 + 1) 1 (.int .i64 xi)) hne).kept (grown_set _ (w.heap.size + 1 + 1) 2 (.int .i64 (4096 + fi * 64))) hne).kept (grown_set _ (w.heap.size + 1 + 1) 3 (.slice qe xs.length je)) hne
    have C6 := (((C5.set 0 (.int .i64 xa)).set 1 (.int .i64 xi)).set 2 (.int .i64 (4096 + fi * 64))).set 3 (.slice qe xs.length je)
    have B6 : Below w.heap.size w ((((w6.setCell ⟨w.heap.size + 1 + 1, 0, none⟩ (.int .i64 xa)).setCell ⟨w.heap.size + 1 + 1, 1, none⟩ (.int .i64 xi)).setCell ⟨w.heap.size + 1 + 1, 2, none⟩ (.int .i64 (4096 + fi * 64))).setCell ⟨w.heap.size + 1 + 1, 3, none⟩ (.slice qe xs.length je)) := (((B5.setCell (by simp; omega) _).setCell (by simp; omega) _).setCell (by simp; omega) _).setCell (by simp; omega) _
    refine hK.out _ _ ⟨P6.cell 1, P6.cell 2, P6.cell 7, P6.cell 4⟩ (fun _ => ?_)
    clear hK K hS0 t0 t1 t2 t3 f0 f1 f2 f3
    generalize (((w6.setCell ⟨w.heap.size + 1 + 1, 0, none⟩ (.int .i64 xa)).setCell ⟨w.heap.size + 1 + 1, 1, none⟩ (.int .i64 xi)).setCell ⟨w.heap.size + 1 + 1, 2, none⟩ (.int .i64 (4096 + fi * 64))).setCell ⟨w.heap.size + 1 + 1, 3, none⟩ (.slice qe xs.length je) = w7 at C6 B6 ⊢
    refine wpL_last (x := 14) rfl (by kernel_rfl) (by kernel_rfl) (fun K hK => ?_)
    go_simp
    refine hK.out _ _ ?_
    refine NoPanic.normal ?_
    clear hK K
    go_wp2
    (try simp only [Exit.inBlock, Exit.then])
    have hF : CellsAt w7 (w.heap.size + 1 + 1) 212 #[.int .i64 xa, .int .i64 xi, .int .i64 (4096 + fi * 64), .slice qe xs.length je] := C6
    refine bodyPost_ret (results_cell_tmp_row rfl _ _ _ _ _ _ _ rfl hF Tryz.underlying212 rfl (by kernel_rfl)) rfl ?_
    exact ⟨⟨_, rfl, _, rfl, hE1⟩, B6⟩

end Go.Proofs.YthmohjgdcjafkaeGreat

/- The contract of resolve.address. -/
namespace Go.Proofs.YthmohjgdcjafkaeGreat
open Go.RowKit Go.PlainAid

set_option maxRecDepth 100000

theorem addrOf_cases (K : Ker) (l : List Plc) (i : Imp) : (tgtOf K l i.mod = none ∧ addrOf K l i = (0, 5)) ∨ ∃ t, tgtOf K l i.mod = some t ∧ ((t.major ≠ i.major ∧ addrOf K l i = (0, 4)) ∨ (t.major = i.major ∧ t.minor < i.minor ∧ addrOf K l i = (0, 4)) ∨
    (t.major = i.major ∧ i.minor ≤ t.minor ∧ (expOf t.exps i.name = none ∧ addrOf K l i = (0, 5) ∨ ∃ x, expOf t.exps i.name = some x ∧ addrOf K l i = (t.beg + x.pos, 0)))) := by
  unfold addrOf
  cases ht : tgtOf K l i.mod with
  | none => exact .inl ⟨rfl, rfl⟩
  | some t =>
    refine .inr ⟨t, rfl, ?_⟩
    dsimp only
    by_cases h1 : t.major = i.major
    · by_cases h2 : t.minor < i.minor
      · exact .inr (.inl ⟨h1, h2, by rw [if_pos (.inr h2)]⟩)
      · refine .inr (.inr ⟨h1, by omega, ?_⟩)
        rw [if_neg (by omega)]
        cases hx : expOf t.exps i.name with
        | none => exact .inl ⟨rfl, rfl⟩
        | some x => exact .inr ⟨x, rfl, rfl⟩
    · exact .inl ⟨h1, by rw [if_pos (.inl h1)]⟩

set_option maxHeartbeats 4000000 in
theorem address_any (K : Ker) (vk : Value) (l : List PV) (v : Value) (i : Imp) (w : World) (hK : IsKer w.heap.size w vk K) (hrow : IsPlcs w.heap.size w v l) (h0 : chkFind K (l.map PV.plc) = 0) :
    Calls Tryz.prog 153 #[vk, v, .agg #[.string i.mod, .string i.name, .int .i64 i.major, .int .i64 i.minor]] w fun e w' => e = .returned (.tuple #[.int .i64 (addrOf K (l.map PV.plc) i).1, .int .i64 (addrOf K (l.map PV.plc) i).2]) ∧ Below w.heap.size w w' := by
  have hfst : ∀ x ∈ l, 0 ≤ x.first ∧ x.first ≤ 15 := fun x hx => by
    have := (chkFind_zero h0).2.2 x.plc (List.mem_map_of_mem hx)
    exact ⟨this.2.1, this.2.2⟩
  have HM : Hid (∀ W, Below w.heap.size w W → Calls Tryz.prog 179 #[vk, v, .string i.mod] W fun e w' => (∃ r, e = .returned r ∧ TgtV W.heap.size W r (tgtOf K (l.map PV.plc) i.mod)) ∧ Below W.heap.size W w') :=
    fun W hb => meant_any K vk l v i.mod W ((hK.below hb).more hb.size) ((hrow.below hb).more hb.size) hfst
  obtain ⟨vke, rfl, hE⟩ := hK
  obtain ⟨pe, ke, rfl, _, _⟩ := hE
  obtain ⟨⟨a, cap, rfl, _, _⟩, _⟩ := hrow
  have key := addrOf_cases K (l.map PV.plc) i
  have hbd := fun t (ht : tgtOf K (l.map PV.plc) i.mod = some t) => tgt_bd h0 ht
  generalize addrOf K (l.map PV.plc) i = R at *
  generalize tgtOf K (l.map PV.plc) i.mod = TT at *
  obtain ⟨ma, mi, es⟩ := K
  obtain ⟨im, inm, ia, ib⟩ := i
  dsimp only at *
  clear h0 hfst
  generalize es.length = le at *
  generalize l.length = ll at *
  have HW2 : Hid (Below w.heap.size w ((w.alloc (.cells #[.int .i64 ma, .int .i64 mi, .slice pe le ke] 24)).alloc (.cells #[.string im, .string inm, .int .i64 ia, .int .i64 ib] 100))) := ((Below.refl _ _).alloc (Nat.le_refl _) _).alloc (by simp) _
  have HC2 : Hid (CellsAt ((w.alloc (.cells #[.int .i64 ma, .int .i64 mi, .slice pe le ke] 24)).alloc (.cells #[.string im, .string inm, .int .i64 ia, .int .i64 ib] 100)) (w.heap.size + 1) 100 #[.string im, .string inm, .int .i64 ia, .int .i64 ib]) := by
    have := CellsAt.new (w.alloc (.cells #[.int .i64 ma, .int .i64 mi, .slice pe le ke] 24)) 100 #[.string im, .string inm, .int .i64 ia, .int .i64 ib]
    rw [World.size_alloc] at this
    exact this
  go_enter Tryz.func153, Tryz.ntmps153
  go_wp2_with fail
  refine (HM.out _ HW2.out).mono ?_
  rintro e w3 ⟨⟨r, rfl, hT⟩, b3⟩
  have C3 := HC2.out.below b3 (by simp)
  have B3 := HW2.out.trans (b3.mono HW2.out.size)
  have hz3 := C3.lt
  rcases key with ⟨rfl, rfl⟩ | ⟨t, rfl, key⟩
  · have hT' : r = .tuple #[.agg #[.int .i64 0, .int .i64 0, .int .i64 0, .slice none 0 0], .bool false] := hT
    subst hT'
    clear HM HW2 HC2 hT b3 hbd
    go_wp2
    go_ret2
    exact ⟨rfl, B3.alloc B3.size _⟩
  · obtain ⟨vt, hr, hR⟩ : ∃ ve, r = .tuple #[.agg #[.int .i64 t.major, .int .i64 t.minor, .int .i64 t.beg, ve], .bool true] ∧ RowOf 2 Exp.cell _ _ ve t.exps := hT
    subst hr
    obtain ⟨q1, q2, q3, q4⟩ := hbd t rfl
    have hR3 := (hR.below b3).more b3.size
    obtain ⟨pt, kt, rfl, _, _⟩ := hR
    clear HM HW2 HC2 b3 hbd
    obtain ⟨ta, ti, tb, ts⟩ := t
    dsimp only at *
    have hW4 : Below w3.heap.size w3 (w3.alloc (.cells #[.int .i64 ta, .int .i64 ti, .int .i64 tb, .slice pt ts.length kt] 212)) := (Below.refl _ _).alloc (Nat.le_refl _) _
    have hR4 := (hR3.below hW4).more hW4.size
    have C4 := C3.below hW4 C3.lt
    have T4 := CellsAt.new w3 212 #[.int .i64 ta, .int .i64 ti, .int .i64 tb, .slice pt ts.length kt]
    have B4 := B3.trans (hW4.mono B3.size)
    have HF : Hid (Calls Tryz.prog 180 #[.slice pt ts.length kt, .func (.func 181) #[] #[.pointer (some ⟨w.heap.size + 1, 0, none⟩)]] (w3.alloc (.cells #[.int .i64 ta, .int .i64 ti, .int .i64 tb, .slice pt ts.length kt] 212)) fun e w' => e = .returned (optExp (expOf ts inm)) ∧ Below (w3.alloc (.cells #[.int .i64 ta, .int .i64 ti, .int .i64 tb, .slice pt ts.length kt] 212)).heap.size (w3.alloc (.cells #[.int .i64 ta, .int .i64 ti, .int .i64 tb, .slice pt ts.length kt] 212)) w') :=
      firstExp_any ts _ 181 (.pointer (some ⟨w.heap.size + 1, 0, none⟩)) (fun w x => enters_of Tryz.func181 (by kernel_rfl) rfl _ w) _ _ hR4 (fun x _ W' hb' => isCalled_any (w.heap.size + 1) inm x W' (Nat.lt_of_lt_of_le C4.lt hb'.size) ((hb'.cell (p := ⟨w.heap.size + 1, 1, none⟩) C4.lt).trans (C4.cell 1)))
    have HC4 : Hid (CellsAt (w3.alloc (.cells #[.int .i64 ta, .int .i64 ti, .int .i64 tb, .slice pt ts.length kt] 212)) (w.heap.size + 1) 100 #[.string im, .string inm, .int .i64 ia, .int .i64 ib]) := C4
    have HT4 : Hid (CellsAt (w3.alloc (.cells #[.int .i64 ta, .int .i64 ti, .int .i64 tb, .slice pt ts.length kt] 212)) w3.heap.size 212 #[.int .i64 ta, .int .i64 ti, .int .i64 tb, .slice pt ts.length kt]) := T4
    have HB4 : Hid (Below w.heap.size w (w3.alloc (.cells #[.int .i64 ta, .int .i64 ti, .int .i64 tb, .slice pt ts.length kt] 212))) := B4
    have c2 := C3.cell 2
    have c3 := C3.cell 3
    simp at c2 c3
    clear C4 T4 B4 hR3 hR4 hW4
    generalize hn : ts.length = lt at *
    rcases key with ⟨h1, rfl⟩ | ⟨rfl, h2, rfl⟩ | ⟨rfl, h2, ⟨h3, rfl⟩ | ⟨x, h3, rfl⟩⟩
    · have h1' : (ta != ia) = true := by simpa using h1
      go_wp2
      go_ret2
      exact ⟨rfl, HB4.out⟩
    · go_wp2
      go_ret2
      exact ⟨rfl, HB4.out⟩
    · rw [h3] at HF
      dsimp only [optExp] at HF
      go_wp2_with fail
      refine HF.out.mono ?_
      rintro e w5 ⟨rfl, b5⟩
      have B5 := HB4.out.trans (b5.mono HB4.out.size)
      go_wp2
      go_ret2
      exact ⟨rfl, B5.alloc B5.size _⟩
    · rw [h3] at HF
      dsimp only [optExp] at HF
      obtain ⟨g1, g2, g3⟩ := q4 x (List.mem_of_find?_eq_some h3)
      clear q4 h3
      go_wp2_with fail
      refine HF.out.mono ?_
      rintro e w5 ⟨rfl, b5⟩
      have B5 := HB4.out.trans (b5.mono HB4.out.size)
      have T5 := HT4.out.below b5 (by simp)
      have t2 := T5.cell 2
      have hz5 := T5.lt
      simp at t2
      clear b5 HF HT4 HC4 HB4
      go_wp2
      go_ret2
      exact ⟨rfl, B5.alloc B5.size _⟩

end Go.Proofs.YthmohjgdcjafkaeGreat

/- The contract of resolve.Find. -/
namespace Go.Proofs.YthmohjgdcjafkaeGreat
open Go.RowKit Go.PlainAid

set_option maxRecDepth 100000

/-- What Find answers. -/
def findRes (k : Ker) (l : List Plc) (i : Imp) : Int × Int := if chkFind k l ≠ 0 then (0, chkFind k l) else if impOwn i ≠ 0 then (0, impOwn i) else addrOf k l i

theorem chkImps_one (i : Imp) : chkImps [] [i] = impOwn i := by
  have h : chkImps [] [i] = if impErr [] i = 0 then 0 else impErr [] i := rfl
  have h2 : impErr [] i = impOwn i := by
    rw [impErr_own]
    by_cases h1 : impOwn i = 1
    · rw [if_pos h1, h1]
    · rw [if_neg h1, if_neg (by simp)]
  rw [h, h2]
  by_cases h3 : impOwn i = 0
  · rw [if_pos h3, h3]
  · rw [if_neg h3]

theorem findRes_cases (k : Ker) (l : List Plc) (i : Imp) : (chkFind k l ≠ 0 ∧ findRes k l i = (0, chkFind k l)) ∨ (chkFind k l = 0 ∧ impOwn i ≠ 0 ∧ findRes k l i = (0, impOwn i)) ∨ (chkFind k l = 0 ∧ impOwn i = 0 ∧ findRes k l i = addrOf k l i) := by
  unfold findRes
  by_cases h1 : chkFind k l = 0
  · by_cases h2 : impOwn i = 0
    · exact .inr (.inr ⟨h1, h2, by rw [if_neg (by omega), if_neg (by omega)]⟩)
    · exact .inr (.inl ⟨h1, h2, by rw [if_neg (by omega), if_pos h2]⟩)
  · exact .inl ⟨h1, by rw [if_pos h1]⟩

end Go.Proofs.YthmohjgdcjafkaeGreat

/- Rows that a call made, and that are appended to. -/
namespace Go.Proofs.YthmohjgdcjafkaeGreat
open Go.RowKit Go.PlainAid

set_option maxRecDepth 100000

def intCell (x : Int) (_ : Nat) : Value := .int .i64 x
def intC (x : Int) : List Value := [.int .i64 x]

theorem own_below {W W' : World} {base : Nat} {e : TypeId} {size : Nat} {v : Value} {n : Nat} {xs : List Value} (h : W.ownsRow base e size v n xs) (hb : Below W.heap.size W W') : W'.ownsRow base e size v n xs := by
  obtain ⟨h1, ⟨rfl, rfl⟩ | ⟨g, cap, cur, rfl, hg, hc, hr⟩⟩ := h
  · exact ⟨h1, .inl ⟨rfl, rfl⟩⟩
  · exact ⟨h1, .inr ⟨g, cap, cur, rfl, hg, (hb.block g (Array.getElem?_eq_some_iff.1 hc).1).trans hc, hr⟩⟩
theorem own_block {W : World} {base : Nat} {e : TypeId} {size : Nat} {v : Value} {n : Nat} {xs : List Value} (h : W.ownsRow base e size v n xs) : ∀ k, v.ownBlock = some k → base ≤ k := by
  intro k hk
  rcases h.2 with ⟨rfl, _⟩ | ⟨g, cap, cur, rfl, hg, _⟩
  · cases hk
  · simp [Value.ownBlock] at hk
    omega
theorem own_form {W : World} {base : Nat} {e : TypeId} {size : Nat} {v : Value} {n : Nat} {xs : List Value} (h : W.ownsRow base e size v n xs) : ∃ a cap, v = .slice a n cap := by
  rcases h.2 with ⟨rfl, rfl⟩ | ⟨g, cap, cur, rfl, _⟩
  · exact ⟨none, 0, rfl⟩
  · exact ⟨_, cap, rfl⟩
theorem own_ints {W : World} {base : Nat} {v : Value} {l : List Int} (h : W.ownsRow base 3 1 v l.length (l.flatMap intC)) (hl : l.length ≤ 255) : RowOf 1 intCell W.heap.size W v l := by
  rcases h.2 with ⟨rfl, hn⟩ | ⟨g, cap, cur, rfl, hg, hb, hcap, hm, hsz, htk⟩
  · obtain rfl : l = [] := List.length_eq_zero_iff.1 hn
    exact ⟨none, 0, rfl, by simp, .inl rfl⟩
  · refine ⟨_, cap, rfl, by omega, .inr ⟨g, 0, rfl, (Array.getElem?_eq_some_iff.1 hb).1, fun j x hj i hi => ?_⟩⟩
    have h1 := flat_at (C := intC) (sz := 1) (fun _ => rfl) l j x i hj hi
    obtain rfl : i = 0 := by omega
    have h2 : (l.flatMap intC)[j * 1 + 0]? = some (.int .i64 x) := h1
    have := h.cells (g := g) rfl (j * 1 + 0) _ h2
    have hadd : (⟨g, 0, none⟩ : Addr).add (j * 1 + 0) = ⟨g, j * 1 + 0, none⟩ := by unfold Addr.add; split <;> simp_all
    rw [hadd] at this
    rw [Nat.zero_add]
    exact this

theorem infoInt : (Tryz.prog.info? 3).map (fun i => (i.zero, i.size, i.bytes)) = some (some (.int .i64 0), 1, 8) := by kernel_rfl
theorem infoInt_parts : ∃ i, Tryz.prog.info? 3 = some i ∧ i.zero = some (.int .i64 0) ∧ i.size = 1 ∧ i.bytes = 8 := by
  have h := infoInt
  cases hi : Tryz.prog.info? 3 with
  | none => rw [hi] at h; cases h
  | some i =>
    rw [hi] at h
    simp at h
    exact ⟨i, rfl, h.1, h.2.1, h.2.2⟩

theorem intC_at (x : Int) (i : Nat) (hi : i < 1) : (intC x)[i]? = some (intCell x i) := by
  obtain rfl : i = 0 := by omega
  rfl

theorem own_rows {α : Type} {C : α → List Value} {cells : α → Nat → Value} {sz : Nat} (hC : ∀ x, (C x).length = sz) (hc : ∀ x i, i < sz → (C x)[i]? = some (cells x i)) {W : World} {base : Nat} {e : TypeId} {v : Value} {l : List α}
    (h : W.ownsRow base e sz v l.length (l.flatMap C)) (hl : l.length ≤ 9223372036854775807) : RowOf sz cells W.heap.size W v l := by
  rcases h.2 with ⟨rfl, hn⟩ | ⟨g, cap, cur, rfl, hg, hb, hcap, hm, hsz, htk⟩
  · obtain rfl : l = [] := List.length_eq_zero_iff.1 hn
    exact ⟨none, 0, rfl, by simp, .inl rfl⟩
  · refine ⟨_, cap, rfl, hl, .inr ⟨g, 0, rfl, (Array.getElem?_eq_some_iff.1 hb).1, fun j x hj i hi => ?_⟩⟩
    have h1 := flat_at hC l j x i hj hi
    rw [hc x i hi] at h1
    have := h.cells (g := g) rfl (j * sz + i) _ h1
    have hadd : (⟨g, 0, none⟩ : Addr).add (j * sz + i) = ⟨g, j * sz + i, none⟩ := by unfold Addr.add; split <;> simp_all
    rw [hadd] at this
    rw [Nat.zero_add]
    exact this

theorem flat_len {α : Type} {C : α → List Value} {sz : Nat} (hC : ∀ x, (C x).length = sz) : ∀ l : List α, (l.flatMap C).length = l.length * sz
  | [] => by simp
  | x :: l => by rw [List.flatMap_cons, List.length_append, flat_len hC l, hC, List.length_cons, Nat.succ_mul]; omega

theorem news_row {α : Type} {C : α → List Value} {cells : α → Nat → Value} {sz : Nat} (h0 : 0 < sz) (hC : ∀ x, (C x).length = sz) (hc : ∀ x i, i < sz → (C x)[i]? = some (cells x i)) {W : World} {b off : Nat} {l : List α}
    (h : ∀ j x, l[j]? = some x → ∀ i, i < sz → W.cell? ⟨b, off + j * sz + i, none⟩ = some (cells x i)) : ∀ j u, (l.flatMap C)[j]? = some u → W.cell? ((⟨b, off, none⟩ : Addr).add j) = some u := by
  intro j u hu
  have hj : j < l.length * sz := by
    have := (List.getElem?_eq_some_iff.1 hu).1
    rwa [flat_len hC] at this
  have hq : j / sz < l.length := (Nat.div_lt_iff_lt_mul h0).2 hj
  obtain ⟨x, hx⟩ : ∃ x, l[j / sz]? = some x := ⟨_, List.getElem?_eq_getElem hq⟩
  have hr : j % sz < sz := Nat.mod_lt _ h0
  have e : j / sz * sz + j % sz = j := by rw [Nat.mul_comm]; exact Nat.div_add_mod j sz
  have h1 := flat_at hC l (j / sz) x (j % sz) hx hr
  rw [hc x _ hr, e, hu] at h1
  have h2 := h (j / sz) x hx (j % sz) hr
  rw [Nat.add_assoc, e, ← h1] at h2
  have hadd : (⟨b, off, none⟩ : Addr).add j = ⟨b, off + j, none⟩ := by unfold Addr.add; split <;> simp_all
  rw [hadd]
  exact h2

theorem keep_own {W W' : World} {B base n : Nat} {t e : TypeId} {cs : Array Value} {v : Value} {xs : List Value} {sz : Nat} (h : CellsAt W B t cs) (O : W.ownsRow base e sz v n xs) (hg : W.grownBy W' v.ownBlock) (hB : B < base) : CellsAt W' B t cs :=
  h.kept hg (fun e => by have := own_block O B e.symm; omega)
theorem own_empty {W : World} {base : Nat} {e : TypeId} (hb : base ≤ W.heap.size) {sz : Nat} : (W.alloc (.cells #[] e)).ownsRow base e sz (.slice (some ⟨W.heap.size, 0, none⟩) 0 0) 0 [] :=
  ⟨by simp, .inr ⟨W.heap.size, 0, #[], rfl, hb, CellsAt.new W e #[], Nat.le_refl _, Nat.zero_le _, by simp, by simp⟩⟩
theorem own_lt {W : World} {base n c g sz : Nat} {e : TypeId} {xs : List Value} (h : W.ownsRow base e sz (.slice (some ⟨g, 0, none⟩) n c) n xs) : g < W.heap.size := by
  rcases h.2 with ⟨e, _⟩ | ⟨g', cap, cur, e, _, hb, _⟩
  · cases e
  · injection e with e _ _
    injection e with e
    injection e with e
    subst e
    exact (Array.getElem?_eq_some_iff.1 hb).1

end Go.Proofs.YthmohjgdcjafkaeGreat
