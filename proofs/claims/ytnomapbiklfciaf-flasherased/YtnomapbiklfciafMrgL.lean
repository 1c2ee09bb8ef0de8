/- Texts that are laid together. -/
import Derived.Test.YtnomapbiklfciafMrgK
import Derived.Test.YtnomapbiklfciafProg
import Derived.Deep.RegionHeld3
import Derived.Deep.AppendLies
import Derived.Shelf.Bits.Mul64
import Derived.Lib.SlBuf
import Derived.Lib.MakeNoZero
import Derived.Laws.Externs
import Derived.Deep.LoopGhost
import Derived.Test.YtnomapbiklfciafMrgJ

/- The contracts of the document's mix, both. -/
namespace Go.Proofs.Ytnomapbiklfciaf
open Go.RowKit Go.PlainAid

set_option maxRecDepth 100000

theorem wrapNat (n : Nat) (h : n ≤ 9223372036854775807) : wrap64 (n : Int) = n := by unfold wrap64; omega
theorem tmodNat (n : Nat) : ((n : Int)).tmod 2 = ((n % 2 : Nat) : Int) := by rw [Int.tmod_eq_emod_of_nonneg (by omega)]; omega

set_option maxHeartbeats 4000000 in
theorem mix_any (a b p : UInt8) (w : World) :
    Calls Try.prog 36 #[.int .u8 (a.toNat : Int), .int .u8 (b.toNat : Int), .int .u8 (p.toNat : Int)] w fun e w' => e = .returned (.int .u8 ((mixB a b p).toNat : Int)) ∧ w' = w := by
  have HP : Hid (∀ (k : Nat), k ≤ 8 → ∀ w, Calls Try.prog 51 #[.int .i64 k] w fun e w' => e = .returned (.int .i64 ((2 ^ k : Nat) : Int)) ∧ w' = w) := fun k hk w => pow2_any k hk w
  have HM : Hid (∀ i, i < 8 → (mixB a b p).toNat / 2 ^ i % 2 = if p.toNat / 2 ^ i % 2 = 1 then a.toNat / 2 ^ i % 2 else b.toNat / 2 ^ i % 2) := fun i hi => mix_bit a b p i hi
  have HL : Hid ((mixB a b p).toNat < 256) := (mixB a b p).toNat_lt
  have HQ : Hid (∀ k, k ≤ 8 → 1 ≤ 2 ^ k ∧ 2 ^ k ≤ 256) := fun k hk => ⟨Nat.two_pow_pos k, Nat.pow_le_pow_right (n := 2) (by decide) hk⟩
  have ha := a.toNat_lt
  have hb := b.toNat_lt
  have hp := p.toNat_lt
  generalize (mixB a b p).toNat = M at *
  generalize a.toNat = A at *
  generalize b.toNat = B at *
  generalize p.toNat = C at *
  go_enter Try.func36, Try.ntmps36
  go_wp2
  go_loop [7, 8] (fun o i => ∃ (j x : Nat), j ≤ 8 ∧ i = .int .i64 j ∧ o = .int .i64 x ∧ Hid (x = M % 2 ^ j)) (fun _ i => 8 - (intOf i).toNat)
  case atStart => exact ⟨0, 0, by omega, rfl, rfl, by show 0 = M % 2 ^ 0; rw [Nat.pow_zero, Nat.mod_one]⟩
  case round =>
    obtain ⟨j, x, hj, rfl, rfl, HX⟩ := hrel
    by_cases hlt : j < 8
    · have HPj := HP.out j (by omega)
      have HN : Hid (M % 2 ^ (j + 1) = M % 2 ^ j + 2 ^ j * (M / 2 ^ j % 2)) := Nat.mod_pow_succ
      have HMj : Hid (M / 2 ^ j % 2 = if C / 2 ^ j % 2 = 1 then A / 2 ^ j % 2 else B / 2 ^ j % 2) := HM.out j hlt
      obtain ⟨hq1, hq2⟩ := HQ.out j (by omega)
      have hxq : x < 2 ^ j := by rw [HX.out]; exact Nat.mod_lt _ (by omega)
      have HX1 : Hid (x = M % 2 ^ j) := HX
      have HRN : Hid (∀ y, y = M / 2 ^ j % 2 → x + y * 2 ^ j = M % 2 ^ (j + 1)) := fun y hy => by rw [HN.out, ← HX1.out, hy, Nat.mul_comm]
      clear HN HX HX1
      generalize 2 ^ j = q at *
      have HPJ : Hid (∀ w, Calls Try.prog 51 #[.int .i64 j] w fun e w' => e = .returned (.int .i64 (q : Int)) ∧ w' = w) := HPj
      have hq0 : ((q : Int) == 0) = false := beq_eq_false_iff_ne.2 (by omega)
      have eA : wrap64 ((A : Int) / (q : Int)) = ((A / q : Nat) : Int) := by rw [← Int.natCast_ediv]; exact wrapNat _ (Nat.le_trans (Nat.div_le_self _ _) (by omega))
      have eB : wrap64 ((B : Int) / (q : Int)) = ((B / q : Nat) : Int) := by rw [← Int.natCast_ediv]; exact wrapNat _ (Nat.le_trans (Nat.div_le_self _ _) (by omega))
      have eC : wrap64 ((C : Int) / (q : Int)) = ((C / q : Nat) : Int) := by rw [← Int.natCast_ediv]; exact wrapNat _ (Nat.le_trans (Nat.div_le_self _ _) (by omega))
      have tA : (((A / q : Nat) : Int)).tmod 2 = ((A / q % 2 : Nat) : Int) := tmodNat _
      have tB : (((B / q : Nat) : Int)).tmod 2 = ((B / q % 2 : Nat) : Int) := tmodNat _
      have tC : (((C / q : Nat) : Int)).tmod 2 = ((C / q % 2 : Nat) : Int) := tmodNat _
      have la : A / q % 2 < 2 := Nat.mod_lt _ (by decide)
      have lb : B / q % 2 < 2 := Nat.mod_lt _ (by decide)
      have lc : C / q % 2 = 0 ∨ C / q % 2 = 1 := by omega
      generalize A / q % 2 = xa at *
      generalize B / q % 2 = xb at *
      generalize C / q % 2 = xc at *
      generalize A / q = ga at *
      generalize B / q = gb at *
      generalize C / q = gc at *
      clear HPj
      go_wp2_with fail
      refine (HPJ.out _).mono ?_
      rintro e wa ⟨rfl, rfl⟩
      go_wp2_with fail
      refine (HPJ.out _).mono ?_
      rintro e wb ⟨rfl, rfl⟩
      rcases lc with rfl | rfl
      · have HXB : Hid (x + xb * q = M % 2 ^ (j + 1)) := HRN.out xb (by rw [HMj.out, if_neg (by decide)])
        have hm : xb * q ≤ 1 * q := Nat.mul_le_mul_right q (by omega)
        have em : wrap64 ((xb : Int) * (q : Int)) = ((xb * q : Nat) : Int) := by rw [← Int.natCast_mul]; exact wrapNat _ (by omega)
        have em' : (xb : Int) * (q : Int) = ((xb * q : Nat) : Int) := by rw [Int.natCast_mul]
        generalize xb * q = z at *
        go_wp2_with fail
        refine (HPJ.out _).mono ?_
        rintro e wc ⟨rfl, rfl⟩
        clear eA eB eC tA tB tC HRN HMj HPJ hq0
        have hz : x + z < 512 := by omega
        clear hm
        go_wp2
        exact ⟨⟨j + 1, x + z, by omega, by go_num, by go_num, HXB⟩, by simp [intOf]; omega⟩
      · have HXB : Hid (x + xa * q = M % 2 ^ (j + 1)) := HRN.out xa (by rw [HMj.out, if_pos rfl])
        have hm : xa * q ≤ 1 * q := Nat.mul_le_mul_right q (by omega)
        have em : wrap64 ((xa : Int) * (q : Int)) = ((xa * q : Nat) : Int) := by rw [← Int.natCast_mul]; exact wrapNat _ (by omega)
        have em' : (xa : Int) * (q : Int) = ((xa * q : Nat) : Int) := by rw [Int.natCast_mul]
        generalize xa * q = z at *
        go_wp2_with fail
        refine (HPJ.out _).mono ?_
        rintro e wc ⟨rfl, rfl⟩
        go_wp2_with fail
        refine (HPJ.out _).mono ?_
        rintro e wd ⟨rfl, rfl⟩
        clear eA eB eC tA tB tC HRN HMj HPJ hq0
        have hz : x + z < 512 := by omega
        clear hm
        go_wp2
        exact ⟨⟨j + 1, x + z, by omega, by go_num, by go_num, HXB⟩, by simp [intOf]; omega⟩
    · obtain rfl : j = 8 := by omega
      have HZ : Hid (x = M) := by
        show x = M
        rw [HX.out]; exact Nat.mod_eq_of_lt HL.out
      have hx : x < 256 := by rw [HZ.out]; exact HL.out
      go_wp2
      go_ret
      exact ⟨by rw [← HZ.out]; rfl, rfl⟩

theorem both_any (a b : UInt8) (w : World) :
    Calls Try.prog 50 #[.int .u8 (a.toNat : Int), .int .u8 (b.toNat : Int)] w fun e w' => e = .returned (.int .u8 ((a &&& b).toNat : Int)) ∧ w' = w := by
  have HM : Hid (∀ W, Calls Try.prog 36 #[.int .u8 (b.toNat : Int), .int .u8 0, .int .u8 (a.toNat : Int)] W fun e w' => e = .returned (.int .u8 ((a &&& b).toNat : Int)) ∧ w' = W) := fun W => by
    have h := mix_any b 0 a W
    have e : mixB b 0 a = a &&& b := by unfold mixB; rw [UInt8.zero_and, UInt8.or_zero, UInt8.and_comm]
    rw [e] at h
    exact h
  go_enter Try.func50, Try.ntmps50
  go_wp2_with fail
  refine (HM.out _).mono ?_
  rintro e wa ⟨rfl, rfl⟩
  go_wp2
  go_ret
  exact ⟨rfl, rfl⟩

end Go.Proofs.Ytnomapbiklfciaf

/- A region that draws its order, and whose last operation writes what was read before: loads may be taken first under a condition that need not hold behind the last. -/
namespace Go.Proofs.Ytnomapbiklfciaf


section
variable {P : Program} {ops : Array Oper} {Q : Exit → Act → World → Prop} {md : Region.Mode} {S : World → Prop}

/-- Whatever order is picked; S holds behind each operation but number x. -/
def wpL (P : Program) (md : Region.Mode) (ops : Array Oper) (Q : Exit → Act → World → Prop) (S : World → Prop) (x : Nat) : Nat → Array Bool → Act → World → Prop
  | 0, listed, a, w => Region.ready md ops listed = [] ∧ Q .normal a w
  | fuel + 1, listed, a, w =>
    (Region.ready md ops listed = [] → Q .normal a w) ∧
    ∀ i ∈ Region.ready md ops listed, wpOp P ops Q i (fun a' w' => (i ≠ x → S w') ∧ wpL P md ops Q S x fuel (listed.setIfInBounds i true) a' w') a w

theorem wpAny_of_L {x : Nat} : ∀ (fuel : Nat) (listed : Array Bool) (a : Act) (w : World), wpL P md ops Q S x fuel listed a w → wpAny P md ops Q fuel listed a w
  | 0, _, _, _, h => h
  | fuel + 1, _, _, _, h => ⟨h.1, fun i hi => wpOp_mono (fun a' w' h' => wpAny_of_L fuel _ a' w' h'.2) (h.2 i hi)⟩

/-- What has come up has come up behind all that it waits for. -/
def Closed (md : Region.Mode) (ops : Array Oper) (listed : Array Bool) : Prop := ∀ j o, listed.getD j false = true → ops[j]? = some o → ∀ e ∈ o.after, Region.binds md e = true → listed.getD e.on false = true

theorem Closed.set {listed : Array Bool} {j : Nat} (h : Closed md ops listed) (hj : j ∈ Region.ready md ops listed) : Closed md ops (listed.setIfInBounds j true) := by
  intro k o hk ho e he hb
  obtain ⟨_, oj, hoj, hall⟩ := mem_ready.1 hj
  by_cases hjk : j = k
  · subst hjk
    rw [hoj] at ho
    injection ho with ho
    subst ho
    exact getD_set_true (hall e he hb)
  · rw [getD_set_ne false hjk] at hk
    exact getD_set_true (h k o hk ho e he hb)

/-- Each operation ahead of x is waited for by a later one, up to x. -/
def Covers (md : Region.Mode) (ops : Array Oper) (x : Nat) : Prop := ∀ k, k < x → ∃ j o e, k < j ∧ j ≤ x ∧ ops[j]? = some o ∧ e ∈ o.after ∧ Region.binds md e = true ∧ e.on = k

theorem covers_all {x : Nat} {listed : Array Bool} (hc : Covers md ops x) (hl : Closed md ops listed) (hx : x ∈ Region.ready md ops listed) : ∀ k, k < x → listed.getD k false = true := by
  obtain ⟨_, ox, hox, hall⟩ := mem_ready.1 hx
  have key : ∀ m k, x - k ≤ m → k < x → listed.getD k false = true := by
    intro m
    induction m with
    | zero => intro k h1 h2; omega
    | succ m ih =>
      intro k h1 h2
      obtain ⟨j, o, e, h3, h4, h5, h6, h7, rfl⟩ := hc k h2
      by_cases hjx : j = x
      · subst hjx
        rw [hox] at h5
        injection h5 with h5
        subst h5
        exact hall e h6 h7
      · exact hl j o (ih j (by omega) (by omega)) h5 e h6 h7
  exact fun k hk => key (x - k) k (Nat.le_refl _) hk

theorem wpL_first {i x : Nat} {oi : Oper} {v : Value} (hi : ops[i]? = some oi) (hsel : ∀ (j : Nat) (o : Oper) cs b, ops[j]? = some o → o.op ≠ .select cs b)
    (hQ : ∀ c a w, Q (.panic c) (a.put oi.dst v) w → Q (.panic c) a w) (hc : Covers md ops x) (hix : i < x) :
    ∀ (fuel : Nat) (listed : Array Bool) (a : Act) (w : World),
      (∀ j oj, ops[j]? = some oj → j ≠ i → listed.getD j true = false → (∀ e ∈ oj.after, Region.binds md e = true → e.on ≠ i) → oi.apart ops oj = true) →
      Closed md ops listed → i ∈ Region.ready md ops listed → YieldsIf P ops S oi v a → S w →
      wpL P md ops Q S x fuel (listed.setIfInBounds i true) (a.put oi.dst v) w → wpL P md ops Q S x (fuel + 1) listed a w := by
  intro fuel
  induction fuel with
  | zero =>
    intro listed a w _ _ hr hy hS H
    refine ⟨fun h => (by rw [h] at hr; cases hr), fun j hj => ?_⟩
    by_cases hji : j = i
    · subst hji; exact hy.wpOp hi hS ⟨fun _ => hS, H⟩
    · have := ready_mono hj hji
      rw [H.1] at this
      cases this
  | succ fuel ih =>
    intro listed a w hfree hcl hr hy hS H
    refine ⟨fun h => (by rw [h] at hr; cases hr), fun j hj => ?_⟩
    by_cases hji : j = i
    · subst hji; exact hy.wpOp hi hS ⟨fun _ => hS, H⟩
    · have hi0 : listed.getD i true = false := (mem_ready.1 hr).1
      have hi1 : listed.getD i false = false := by
        rcases Nat.lt_or_ge i listed.size with h' | h'
        · simpa [h'] using hi0
        · simp [Array.getElem?_eq_none h'] at hi0
      have hjx : j ≠ x := fun e => by
        subst e
        have := covers_all hc hcl hj i hix
        rw [hi1] at this
        cases this
      have h1 := H.2 j (ready_mono hj hji)
      obtain ⟨hjun, oj, hoj, hall⟩ := mem_ready.1 hj
      have hnot : ∀ e ∈ oj.after, Region.binds md e = true → e.on ≠ i := fun e he hb heq => by
        have h2 := hall e he hb
        rw [heq, hi1] at h2
        cases h2
      have h2 := wpOp_putIf hoj (hfree j oj hoj hji hjun hnot) (fun cs b => hsel i oi cs b hi) (fun cs b => hsel j oj cs b hoj) hQ hy h1
      have hfree' : ∀ k ok, ops[k]? = some ok → k ≠ i → (listed.setIfInBounds j true).getD k true = false →
          (∀ e ∈ ok.after, Region.binds md e = true → e.on ≠ i) → oi.apart ops ok = true := fun k ok hk hki hun hno => by
        refine hfree k ok hk hki ?_ hno
        by_cases hjk : j = k
        · subst hjk; exact hjun
        · rw [getD_set_ne true hjk] at hun; exact hun
      refine wpOp_mono (fun a' w' h3 => ⟨h3.2.1, ih (listed.setIfInBounds j true) a' w' hfree' (hcl.set hj) (ready_mono hr (Ne.symm hji)) h3.1 (h3.2.1 hjx) ?_⟩) h2
      rw [Array.setIfInBounds_comm _ _ hji]
      exact h3.2.2

def closedB (md : Region.Mode) (ops : Array Oper) (listed : Array Bool) : Bool :=
  (List.range listed.size).all fun j => !listed.getD j false || ((ops[j]?).map (·.after.all fun e => !Region.binds md e || listed.getD e.on false)).getD true
theorem closedB_spec {listed : Array Bool} (h : closedB md ops listed = true) : Closed md ops listed := by
  intro j o hj ho e he hb
  have hlt : j < listed.size := by
    rcases Nat.lt_or_ge j listed.size with h' | h'
    · exact h'
    · simp [Array.getElem?_eq_none h'] at hj
  simp only [closedB, List.all_eq_true, List.mem_range] at h
  have h1 := h j hlt
  rw [hj, ho] at h1
  simp only [Bool.not_true, Bool.false_or, Option.map_some, Option.getD_some, Array.all_eq_true_iff_forall_mem] at h1
  have h2 := h1 e he
  rw [hb] at h2
  simpa using h2
def coversB (md : Region.Mode) (ops : Array Oper) (x : Nat) : Bool :=
  (List.range x).all fun k => (List.range (x + 1)).any fun j => decide (k < j) && ((ops[j]?).map (·.after.any fun e => Region.binds md e && e.on == k)).getD false
theorem coversB_spec {x : Nat} (h : coversB md ops x = true) : Covers md ops x := by
  intro k hk
  simp only [coversB, List.all_eq_true, List.mem_range] at h
  have h1 := h k hk
  simp only [List.any_eq_true, List.mem_range, Bool.and_eq_true, decide_eq_true_eq] at h1
  obtain ⟨j, hj, hkj, hh⟩ := h1
  cases ho : ops[j]? with
  | none => rw [ho] at hh; simp at hh
  | some o =>
    rw [ho] at hh
    simp only [Option.map_some, Option.getD_some] at hh
    obtain ⟨e, he, hb⟩ := Array.any_eq_true'.1 hh
    simp only [Bool.and_eq_true, beq_iff_eq] at hb
    exact ⟨j, o, e, hkj, by omega, ho, he, hb.1, hb.2⟩

/-- Number i is taken first. -/
theorem wpL_take (i : Nat) {x : Nat} (d : Nat) (v : Value) {oi : Oper} {fuel : Nat} {listed : Array Bool} {tm : Array Value} {df : List Deferred} {w : World} (hi : ops[i]? = some oi)
    (hb : (Region.noSelect ops && (Region.free md ops listed i && ((Region.ready md ops listed).contains i && (closedB md ops listed && (coversB md ops x && decide (i < x)))))) = true)
    (hQ : ∀ c a w, Q (.panic c) (a.put oi.dst v) w → Q (.panic c) a w) (hS : S w) (hd : oi.dst = some d) (hg : oi.guard = none) (hy : ∀ w, S w → (execOp (Act.eval ⟨tm, df⟩) oi).run P w = .ok (.value v) w)
    (h : wpL P md ops Q S x fuel (listed.setIfInBounds i true) ⟨tm.setIfInBounds d v, df⟩ w) : wpL P md ops Q S x (fuel + 1) listed ⟨tm, df⟩ w := by
  simp only [Bool.and_eq_true, decide_eq_true_eq] at hb
  obtain ⟨h1, h2, h3, h4, h5, h6⟩ := hb
  refine wpL_first hi (Region.noSelect_spec h1) hQ (coversB_spec h5) h6 fuel listed ⟨tm, df⟩ w (Region.free_spec hi h2) (closedB_spec h4) (by simpa using h3) (.inl ⟨by simp [Region.wanted, hg], hy⟩) hS ?_
  rw [hd]
  exact h

/-- Number i alone may come up. -/
theorem wpL_step {i x : Nat} {o : Oper} {fuel : Nat} {listed : Array Bool} {a : Act} {w : World} (ho : ops[i]? = some o) (hr : Region.ready md ops listed = [i])
    (h : ∀ K' : Act → World → Prop, Shut (∀ a w, S w → (S w → wpL P md ops Q S x fuel (listed.setIfInBounds i true) a w) → K' a w) → if Region.wanted o (yielded ops a.tmps) = true then Oper.wp P o a w K' Q else K' (a.put o.dst undef) w) :
    wpL P md ops Q S x (fuel + 1) listed a w := by
  refine ⟨fun h0 => (by rw [hr] at h0; cases h0), fun j hj => ?_⟩
  rw [hr] at hj
  obtain rfl : j = i := by simpa using hj
  exact wpOp_step ho (fun K' hK => h K' (fun a w hS hW => hK a w ⟨fun _ => hS, hW hS⟩))

/-- One of two comes up. -/
theorem wpL_two {i j x : Nat} {o p : Oper} {fuel : Nat} {listed : Array Bool} {a : Act} {w : World} (ho : ops[i]? = some o) (hp : ops[j]? = some p) (hr : Region.ready md ops listed = [i, j])
    (h : ∀ K' : Act → World → Prop, Shut (∀ a w, S w → (S w → wpL P md ops Q S x fuel (listed.setIfInBounds i true) a w) → K' a w) → if Region.wanted o (yielded ops a.tmps) = true then Oper.wp P o a w K' Q else K' (a.put o.dst undef) w)
    (h2 : ∀ K' : Act → World → Prop, Shut (∀ a w, S w → (S w → wpL P md ops Q S x fuel (listed.setIfInBounds j true) a w) → K' a w) → if Region.wanted p (yielded ops a.tmps) = true then Oper.wp P p a w K' Q else K' (a.put p.dst undef) w) :
    wpL P md ops Q S x (fuel + 1) listed a w := by
  refine ⟨fun h0 => (by rw [hr] at h0; cases h0), fun k hk => ?_⟩
  rw [hr] at hk
  rcases List.mem_cons.1 hk with rfl | hk
  · exact wpOp_step ho (fun K' hK => h K' (fun a w hS hW => hK a w ⟨fun _ => hS, hW hS⟩))
  · obtain rfl : k = j := by simpa using hk
    exact wpOp_step hp (fun K' hK => h2 K' (fun a w hS hW => hK a w ⟨fun _ => hS, hW hS⟩))

/-- The last one. -/
theorem wpL_last {x : Nat} {o : Oper} {fuel : Nat} {listed : Array Bool} {a : Act} {w : World} (ho : ops[x]? = some o) (hr : Region.ready md ops listed = [x]) (hr2 : Region.ready md ops (listed.setIfInBounds x true) = [])
    (h : ∀ K' : Act → World → Prop, Shut (∀ a w, Q .normal a w → K' a w) → if Region.wanted o (yielded ops a.tmps) = true then Oper.wp P o a w K' Q else K' (a.put o.dst undef) w) :
    wpL P md ops Q S x (fuel + 1) listed a w := by
  refine ⟨fun h0 => (by rw [hr] at h0; cases h0), fun j hj => ?_⟩
  rw [hr] at hj
  obtain rfl : j = x := by simpa using hj
  refine wpOp_step ho (fun K' hK => h K' (fun a w hq => hK a w ⟨fun h => absurd rfl h, ?_⟩))
  cases fuel with
  | zero => exact ⟨hr2, hq⟩
  | succ n => exact ⟨fun _ => hq, by rw [hr2]; simp⟩

/-- The beginning. -/
theorem wp_region_L {x : Nat} {id : Nat} {a : Act} {w : World} (hm : P.follows .mixedOrders = true)
    (h : wpL P .any ops Q S x ops.size (Array.replicate ops.size false) a w.drew) : (Code.region id ops true).wp P Q a w :=
  wp_region_any hm (wpAny_of_L _ _ _ _ h)

end

end Go.Proofs.Ytnomapbiklfciaf

/- The contract of bytes.Repeat at one byte. -/
namespace Go.Proofs.Ytnomapbiklfciaf
open Go.RowKit Go.PlainAid Go.Shelf

set_option maxRecDepth 100000

def mulL_ren : Go.Shelf.Ren := ⟨fun | 212 => 46 | 263 => 59 | 264 => 60 | n => n, fun | 46 => 85 | 51 => 100 | 53 => 103 | 146 => 101 | 148 => 104 | n => n, fun | n => n⟩
theorem mulL : Go.Proofs.Lays.n212 Try.prog mulL_ren := {
  mixed := by kernel_rfl
  f212 := Try.func46.trans (congrArg some (by kernel_rfl))
  f263 := Try.func59.trans (congrArg some (by kernel_rfl))
  f264 := Try.func60.trans (congrArg some (by kernel_rfl))
  t46 := Try.underlying85
  a46 := Try.isAgg85
  z46 := Try.sizeOf85
  v46 := Try.zeroValue85
  t51 := Try.underlying100
  a51 := Try.isAgg100
  z51 := Try.sizeOf100
  v51 := Try.zeroValue100
  t53 := Try.underlying103
  a53 := Try.isAgg103
  z53 := Try.sizeOf103
  v53 := Try.zeroValue103
  t146 := Try.underlying101
  a146 := Try.isAgg101
  z146 := Try.sizeOf101
  v146 := Try.zeroValue101
  t148 := Try.underlying104
  a148 := Try.isAgg104
  z148 := Try.sizeOf104
  v148 := Try.zeroValue104 }

theorem mul_any (x y : Nat) (hx : x * y < 18446744073709551616) (h1 : x < 18446744073709551616) (h2 : y < 18446744073709551616) (w : World) :
    Calls Try.prog 46 #[.int .u64 x, .int .u64 y] w fun e w' => e = .returned (.tuple #[.int .u64 0, .int .u64 ((x * y : Nat) : Int)]) ∧ w' = w := by
  have := Any.bits_Mul mulL x y h1 h2 w
  rw [Nat.div_eq_of_lt hx, Nat.mod_eq_of_lt hx] at this
  exact this

theorem copy_own (w0 wr : World) (h N m k cap : Nat) (x : UInt8) (t ty e : TypeId) (hu : Try.prog.underlying t = some (.slice e)) (hs : (Try.prog.info? e).map (·.size) = some 1)
    (hb : Lib.Buf w0 wr h N (List.replicate m x)) (hk : k ≤ m) (hm : m < N) :
    ∃ wr', (Builtin.copy_ #[t, t] ty #[Lib.tailV h N m, .slice (some ⟨h, 0, none⟩) k cap]).run Try.prog wr = .ok (.int .i64 ((min k (N - m) : Nat) : Int)) wr' ∧ Lib.Buf w0 wr' h N (List.replicate (m + min k (N - m)) x) := by
  obtain ⟨j, hj⟩ : ∃ j, min k (N - m) = j := ⟨_, rfl⟩
  have hr := run_copy_cells (P := Try.prog) wr t t ty e h m (N - m) (N - m) ⟨h, 0, none⟩ k cap (List.replicate j (Value.int .u8 (x.toNat : Int))) hu hs (by rw [List.length_replicate]; exact hj.symm)
    (fun i u hi => by
      have hi' : i < j := by have := (List.getElem?_eq_some_iff.1 hi).1; simpa using this
      rw [List.getElem?_replicate, if_pos hi'] at hi
      injection hi with hi
      subst hi
      have hadd : (⟨h, 0, none⟩ : Addr).add i = ⟨h, i, none⟩ := by unfold Addr.add; split <;> simp_all
      rw [hadd]
      exact hb.holds i x (by rw [List.getElem?_replicate, if_pos (by omega)]))
    (fun i hi => hb.there _ (by rw [List.length_replicate] at hi; omega)) (fun i hi => hb.free _ (by rw [List.length_replicate] at hi; omega))
    (fun u hu' => by rw [(List.mem_replicate.1 hu').2]; rfl)
  rw [List.length_replicate] at hr
  rw [hj]
  have hne : ¬ N = m := by omega
  refine ⟨_, by unfold Lib.tailV; rw [if_neg hne]; exact hr, ?_⟩
  have hin := World.cell?_setCells_in h (List.replicate j (Value.int .u8 (x.toNat : Int))) m wr (fun i hi => hb.there _ (by rw [List.length_replicate] at hi; omega))
  have hout := World.cell?_setCells_out h (List.replicate j (Value.int .u8 (x.toNat : Int))) m wr
  refine ⟨Lib.below_setCells h (Nat.le_refl _) _ _ hb.below, ?_, ?_, ?_, by rw [List.length_replicate]; omega⟩
  · intro i hi
    by_cases h1 : m ≤ i ∧ i < m + j
    · obtain ⟨d, rfl⟩ : ∃ d, i = m + d := ⟨i - m, by omega⟩
      rw [hin d (by rw [List.length_replicate]; omega)]
      rfl
    · rw [hout ⟨h, i, none⟩ (fun _ _ => by rw [List.length_replicate]; show i < _ ∨ _ ≤ i; omega)]
      exact hb.there i hi
  · intro i hi
    rw [World.frozen?_setCells]
    exact hb.free i hi
  · intro i y hy
    rw [List.getElem?_replicate] at hy
    split at hy
    · injection hy with hy
      subst hy
      by_cases h1 : i < m
      · rw [hout ⟨h, i, none⟩ (fun _ _ => Or.inl h1)]
        exact hb.holds i x (by rw [List.getElem?_replicate, if_pos h1])
      · obtain ⟨d, rfl⟩ : ∃ d, i = m + d := ⟨i - m, by omega⟩
        rw [hin d (by rw [List.length_replicate]; omega)]
        simp
    · cases hy

theorem buf_cellsB {w0 wr : World} {g N : Nat} {c : List UInt8} (h : Lib.Buf w0 wr g N c) (hN : c.length = N) (h1 : 0 < N) : CellsB wr g c :=
  ⟨by
    have h0 := h.there 0 h1
    cases hc : wr.cell? ⟨g, 0, none⟩ with
    | none => rw [hc] at h0; cases h0
    | some v => exact World.block_lt_of_cell? wr ⟨g, 0, none⟩ hc, h.holds, fun j hj => h.free j (by omega)⟩

set_option maxHeartbeats 4000000 in
theorem repB_any (B n : Nat) (w : World) (hB : CellsAt w B 5 #[.int .u8 255]) (h1 : 1 ≤ n) (hn : n ≤ 4096) :
    Calls Try.prog 30 #[.slice (some ⟨B, 0, none⟩) 1 1, .int .i64 n] w fun e w' => e = .returned (.slice (some ⟨w.heap.size, 0, none⟩) n n) ∧ CellsB w' w.heap.size (List.replicate n 255) ∧ Below w.heap.size w w' := by
  have HMul : Hid (Calls Try.prog 46 #[.int .u64 1, .int .u64 (n : Int)] w fun e w' => e = .returned (.tuple #[.int .u64 0, .int .u64 (n : Int)]) ∧ w' = w) := by
    have := mul_any 1 n (by omega) (by omega) (by omega) w
    rw [Nat.one_mul] at this
    exact this
  have hs5 : (Try.prog.info? 5).map (·.size) = some 1 := by kernel_rfl
  obtain ⟨cs, hrunM, hle, _⟩ := Lib.run_makeNoZero (P := Try.prog) w #[3] 57 5 Try.underlying57 n (by omega)
  have hcall : (callFunc 47 #[.int .i64 (n : Int)]).run Try.prog w = .ok (.value (.slice (some ⟨w.heap.size, 0, none⟩) n cs.size)) ((w.alloc (.cells cs 5)).drewN 2) := by
    rw [run_callFunc_extern Try.func47 (by kernel_rfl) (by kernel_rfl) (by kernel_rfl) (e := Extern.BytealgMakeNoZero.makeNoZero #[3] #[57]) (by kernel_rfl), hrunM]
    rfl
  clear hrunM
  have i0 : (0 : Int) ≤ (n : Int) := by omega
  have i1 : (n : Int) ≤ (cs.size : Int) := by omega
  have B0 := Lib.Buf.start w cs 5 n 2 hle
  have hb0 : w.cell? ⟨B, 0, none⟩ = some (.int .u8 255) := hB.cell 0
  obtain ⟨w1, hr1, B1⟩ := Lib.copy_part (P := Try.prog) w _ w.heap.size n [] [255] (.slice (some ⟨B, 0, none⟩) 1 1) 57 3 5 Try.underlying57 hs5 (Nat.le_refl _) B0 ⟨some ⟨B, 0, none⟩, 1, rfl, by simp, fun a ha j x hx => by
    injection ha with ha
    subst ha
    obtain ⟨hj, rfl⟩ := List.getElem?_eq_some_iff.1 hx
    obtain rfl : j = 0 := by simpa using hj
    have hadd : (⟨B, 0, none⟩ : Addr).add 0 = ⟨B, 0, none⟩ := by unfold Addr.add; split <;> simp_all
    rw [hadd, hb0]
    rfl⟩ (by simp; omega)
  rw [List.length_nil, Lib.tailV_zero] at hr1
  have HB1 : Hid (Lib.Buf w w1 w.heap.size n (List.replicate 1 255)) := B1
  clear B1 B0
  go_enter Try.func30, Try.ntmps30
  go_wp2_with fail
  refine HMul.out.mono ?_
  rintro e wm ⟨rfl, rfl⟩
  clear HMul
  go_wp2_with (at_builtin; refine Lib.wpList_copy_run _ rfl _ _ 57 57 rfl _ _ rfl rfl hr1 ?_)
  clear hr1 hcall hb0
  go_loopw [10, 11] (fun bp _ wr => ∃ (m : Nat), 1 ≤ m ∧ m ≤ n ∧ bp = .int .i64 m ∧ Hid (Lib.Buf wm wr wm.heap.size n (List.replicate m 255))) (fun bp _ _ => n - (intOf bp).toNat)
  case atStart => exact ⟨1, by omega, h1, rfl, HB1⟩
  case round =>
    obtain ⟨m, hm1, hm2, rfl, HB⟩ := hrel
    clear HB1
    by_cases hlt : m < n
    · have hsl1 : ∀ W, (Instr.slice 57 (.slice (some ⟨wm.heap.size, 0, none⟩) n n) (some (.int .i64 (m : Int))) none none).run Try.prog W = .ok (Lib.tailV wm.heap.size n m) W := fun W => Lib.run_slice_tailV W 57 5 Try.underlying57 Try.sizeOf5 _ n m (by omega)
      obtain ⟨wd, hr2, B2⟩ := copy_own wm wr.drew wm.heap.size n m m n 255 57 3 5 Try.underlying57 hs5 ⟨HB.out.below.drew, HB.out.there, HB.out.free, HB.out.holds, HB.out.fits⟩ (Nat.le_refl _) hlt
      have HB2 : Hid (Lib.Buf wm wd wm.heap.size n (List.replicate (m + min m (n - m)) 255)) := B2
      obtain ⟨j, hj⟩ : ∃ j, min m (n - m) = j := ⟨_, rfl⟩
      rw [hj] at hr2 HB2
      have hj1 : 1 ≤ j := by omega
      have hj2 : m + j ≤ n := by omega
      have hmn : ¬ ((n : Int) < (m : Int)) := by omega
      have hmin : min (m : Int) (n : Int) = (m : Int) := by omega
      clear B2 hj
      go_wp2_with fail
      refine wp_region_noPanic ?_
      refine wp_region_L (S := fun _ => True) (x := 9) (by kernel_rfl) ?_
      have hS : True := trivial
      refine wpL_take 0 67 (.int .i64 (m : Int)) rfl (by kernel_rfl) (fun _ _ _ h => h) hS rfl rfl (fun w' hSw => by clear hSw; go_simp) ?_
      simp only [List.setIfInBounds_toArray, List.set_cons_zero, List.set_cons_succ]
      refine wpL_take 1 68 (.slice (some ⟨wm.heap.size, 0, none⟩) n n) rfl (by kernel_rfl) (fun _ _ _ h => h) hS rfl rfl (fun w' hSw => by clear hSw; go_simp) ?_
      simp only [List.setIfInBounds_toArray, List.set_cons_zero, List.set_cons_succ]
      refine wpL_take 2 69 (.int .i64 (m : Int)) rfl (by kernel_rfl) (fun _ _ _ h => h) hS rfl rfl (fun w' hSw => by clear hSw; go_simp) ?_
      simp only [List.setIfInBounds_toArray, List.set_cons_zero, List.set_cons_succ]
      refine wpL_take 3 70 (Lib.tailV wm.heap.size n m) rfl (by kernel_rfl) (fun _ _ _ h => h) hS rfl rfl (fun w' hSw => by clear hSw; go_simp) ?_
      simp only [List.setIfInBounds_toArray, List.set_cons_zero, List.set_cons_succ]
      refine wpL_take 4 71 (.slice (some ⟨wm.heap.size, 0, none⟩) n n) rfl (by kernel_rfl) (fun _ _ _ h => h) hS rfl rfl (fun w' hSw => by clear hSw; go_simp) ?_
      simp only [List.setIfInBounds_toArray, List.set_cons_zero, List.set_cons_succ]
      refine wpL_take 5 72 (.int .i64 (m : Int)) rfl (by kernel_rfl) (fun _ _ _ h => h) hS rfl rfl (fun w' hSw => by clear hSw; go_simp) ?_
      simp only [List.setIfInBounds_toArray, List.set_cons_zero, List.set_cons_succ]
      refine wpL_take 6 73 (.slice (some ⟨wm.heap.size, 0, none⟩) m n) rfl (by kernel_rfl) (fun _ _ _ h => h) hS rfl rfl (fun w' hSw => by clear hSw; go_simp) ?_
      simp only [List.setIfInBounds_toArray, List.set_cons_zero, List.set_cons_succ]
      refine wpL_step (i := 7) rfl (by kernel_rfl) (fun K hK => ?_)
      rw [if_pos (by rfl)]
      refine Lib.wp_copy_run _ _ _ _ _ rfl _ _ rfl rfl hr2 ?_
      refine hK.out _ _ trivial (fun _ => ?_)
      clear hK K
      simp only [Act.put, List.setIfInBounds_toArray]
      refine wpL_step (i := 8) rfl (by kernel_rfl) (fun K hK => ?_)
      go_simp
      refine hK.out _ _ trivial (fun _ => ?_)
      clear hK K
      refine wpL_last (x := 9) rfl (by kernel_rfl) (by kernel_rfl) (fun K hK => ?_)
      go_simp
      refine hK.out _ _ ?_
      refine NoPanic.normal ?_
      clear hK K
      go_wp2
      have e1 : IntKind.i64.wrap ((m : Int) + (j : Int)) = ((m + j : Nat) : Int) := by rw [i64_is]; unfold wrap64; omega
      exact ⟨⟨m + j, by omega, hj2, by rw [e1], HB2⟩, by simp [intOf, e1]; omega⟩
    · obtain rfl : n = m := by omega
      go_wp2
      go_ret
      exact ⟨rfl, buf_cellsB HB.out (by simp) (by omega), HB.out.below⟩

end Go.Proofs.Ytnomapbiklfciaf
