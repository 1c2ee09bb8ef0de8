/- Texts that are laid together. -/
import Derived.Test.YtnomapbiklfciafMrgP
import Derived.Deep.Cut
import Derived.Deep.CutRange
import Derived.Deep.LoopGhost
import Derived.Test.YtnomapbiklfciafMrgL
import Derived.Test.YtnomapbiklfciafMrgC
import Derived.ProofKit
import Derived.OpenShut
import Derived.ShutString
import Derived.ChangeOld
import Derived.SizedLaws
import Derived.Below
import Derived.Carry
import Derived.Deep.Slices
import Derived.Test.YtnomapbiklfciafMrgK

/- FlashErased: the walk. -/
namespace Go.Proofs.Ytnomapbiklfciaf.flashErased
open Go.RowKit Go.PlainAid Go.Lib Go.Proofs.Ytnomapbiklfciaf.flashBits

set_option maxRecDepth 100000

theorem chkDs_app (n : Nat) : ∀ (l r : List Deed) (e : Int), chkDs n e (l ++ r) = chkDs n (chkDs n e l) r
  | [], r, e => rfl
  | d :: l, r, e => by
    show (if e = 0 then chkDs n (chkDeed n d) (l ++ r) else e) = _
    by_cases h : e = 0
    · rw [if_pos h, chkDs_app n l r, show chkDs n e (d :: l) = chkDs n (chkDeed n d) l from if_pos h]
    · rw [if_neg h]
      show e = chkDs n (if e = 0 then _ else e) r
      rw [if_neg h, chkDs_wrong _ _ _ h]
theorem parts {F : List ByteArray} {l : List Deed} (h : chkDeeds F l = 0) (k : Nat) : chkDeeds F (l.take k) = 0 ∧ chkDeeds (doneAll F (l.take k)) (l.drop k) = 0 ∧ doneAll (doneAll F (l.take k)) (l.drop k) = doneAll F l ∧ GoodF F.length (doneAll F (l.take k)) := by
  obtain ⟨h1, h2⟩ := chkDs_zero h
  have hG := goodF_iff.1 h1
  have ht : chkDeeds F (l.take k) = 0 := by
    have := chkDs_app (F.length * 128) (l.take k) (l.drop k) (chkFl F)
    rw [List.take_append_drop] at this
    unfold chkDeeds at h ⊢
    rw [h] at this
    exact (chkDs_zero this.symm).1
  have hGT : GoodF F.length (doneAll F (l.take k)) := ((do_done (l := l.take k) hG h1).2 ht).2
  refine ⟨ht, ?_, ?_, hGT⟩
  · unfold chkDeeds
    rw [hGT.1, hGT.chk]
    have h3 := chkDs_app (F.length * 128) (l.take k) (l.drop k) (chkFl F)
    rw [List.take_append_drop] at h3
    unfold chkDeeds at h ht
    rw [h, ht] at h3
    exact h3.symm
  · unfold doneAll
    rw [← List.foldl_append, List.take_append_drop]
theorem u8_z1 (b v : UInt8) : b &&& v &&& v = b &&& v := by
  apply u8_ext; intro i hi
  simp only [UInt8.toBitVec_and, BitVec.getLsbD_and]
  cases b.toBitVec.getLsbD i <;> cases v.toBitVec.getLsbD i <;> rfl
theorem x_x (x y : UInt8) : x ^^^ (x ^^^ y) = y := by
  apply u8_ext; intro i hi
  simp only [UInt8.toBitVec_xor, BitVec.getLsbD_xor]
  cases x.toBitVec.getLsbD i <;> cases y.toBitVec.getLsbD i <;> rfl
theorem bec_bec (d : Deed) (b : UInt8) : d.bec (d.bec b) = d.bec b := by
  unfold Deed.bec
  by_cases h : d.kind = 2
  · rw [if_pos h, if_pos h]
  · rw [if_neg h, if_neg h, u8_z1]
theorem twice {F : List ByteArray} {d : Deed} (h : chkDeeds F [d] = 0) : chkDeeds (doneB F d) [d] = 0 ∧ doneB (doneB F d) d = doneB F d ∧ GoodF F.length (doneB F d) := by
  obtain ⟨h1, h2⟩ := (chk_one F d).1 h
  have hG := goodF_iff.1 h1
  have hA := doneB_good hG h2
  have h2' : chkDeed ((doneB F d).length * 128) d = 0 := by rw [hA.1]; exact h2
  refine ⟨(chk_one _ d).2 ⟨hA.chk, h2'⟩, ?_, hA⟩
  have hA2 : GoodF F.length (doneB (doneB F d) d) := doneB_good hA h2
  rw [← blocksM_join hA2, ← turn_done hA h2, ← turn_done hG h2]
  have : turnM allT d (turnM allT d (joinM F)) = turnM allT d (joinM F) := by
    apply List.ext_getElem?
    intro j
    unfold turnM
    rw [turnK_at, turnK_at]
    cases (joinM F)[j]? with
    | none => rfl
    | some b =>
      simp only [Option.map_some]
      by_cases hj : d.start ≤ j ∧ j < d.start + d.many
      · rw [if_pos hj, if_pos hj]
        show some ((b ^^^ (b ^^^ d.bec b)) ^^^ ((b ^^^ (b ^^^ d.bec b)) ^^^ d.bec (b ^^^ (b ^^^ d.bec b)))) = some (b ^^^ (b ^^^ d.bec b))
        rw [x_x, x_x, bec_bec]
      · rw [if_neg hj, if_neg hj]
  rw [this, turn_done hG h2, blocksM_join hA]
theorem one_of {F : List ByteArray} {l : List Deed} (h : chkDeeds F l = 0) {d : Deed} (hd : d ∈ l) : chkDeeds (doneAll F l) [d] = 0 := by
  obtain ⟨h1, h2⟩ := chkDs_zero h
  have hG := ((do_done (l := l) (goodF_iff.1 h1) h1).2 h).2
  exact (chk_one _ d).2 ⟨hG.chk, by rw [hG.1]; exact h2 d hd⟩
theorem erase_err {A : List ByteArray} (hA : chkFl A = 0) (b : Int) : chkDeeds A [⟨2, b, 0⟩] = 0 ∨ chkDeeds A [⟨2, b, 0⟩] = 3 := by
  unfold chkDeeds chkDs chkDs
  rw [if_pos hA]
  rcases chkDeed_cases (A.length * 128) ⟨2, b, 0⟩ with ⟨_, _, h⟩ | ⟨h, _⟩ | ⟨_, h⟩
  · exact absurd rfl h
  · exact absurd h (show ¬ ((2 : Int) = 1) by decide)
  · rcases h with ⟨h, _⟩ | ⟨h, _⟩ | ⟨h, _⟩ | ⟨h, _⟩ | ⟨h, _⟩ <;> simp [h]
theorem erase_read {A : List ByteArray} {b : Int} (h : chkDeeds A [⟨2, b, 0⟩] = 0) : ∃ q : Nat, b = q ∧ q < 32 ∧ readRes (doneB A ⟨2, b, 0⟩) (b * 128) 128 = (⟨(List.replicate 128 255).toArray⟩, 0) := by
  obtain ⟨h1, h2⟩ := (chk_one A _).1 h
  have hG := goodF_iff.1 h1
  obtain ⟨h3, _, _, h4, h5⟩ := deed_right h2
  have hk : dBlk ⟨2, b, 0⟩ = b.toNat := if_pos rfl
  have hlt := dBlk_lt h2
  rw [hk] at hlt
  dsimp only at h3
  have hA := doneB_good hG h2
  refine ⟨b.toNat, by omega, by have := hG.2.2.1; omega, ?_⟩
  have hl : (joinM (doneB A ⟨2, b, 0⟩)).length = A.length * 128 := by rw [joinM_length hA.2.2.2, hA.1]
  unfold readRes
  rw [if_neg (by rw [hA.chk]; omega), hl, if_neg (by omega)]
  congr 2
  congr 1
  apply List.ext_getElem?
  intro i
  by_cases hi : i < 128
  · rw [show (128 : Int).toNat = 128 from rfl, List.getElem?_take_of_lt hi, List.getElem?_drop, show (b * 128).toNat + i = b.toNat * 128 + i by omega, joinM_at hA.2.2.2 _ _ hi]
    unfold doneB
    rw [hk, set_here _ _ _ _ rfl (by omega), List.getElem?_replicate, if_pos hi]
    show (dBytes A ⟨2, b, 0⟩)[i]? = _
    rw [show dBytes A ⟨2, b, 0⟩ = List.replicate 128 255 from if_pos rfl, List.getElem?_replicate, if_pos hi]
  · rw [List.getElem?_eq_none (by rw [List.length_take]; show min 128 _ ≤ i; omega), List.getElem?_eq_none (by rw [List.length_replicate]; omega)]

theorem wf_small {m : Int} (h0 : 0 ≤ m) (h : m ≤ 4096) : (Lit.int .i64 m).wf = true := by
  simp [Lit.wf, IntKind.min, IntKind.max, IntKind.signed, IntKind.bits]
  omega
theorem ones_ix (k : Nat) (hk : k < 128) (W : World) : (Instr.index 9 (.string ⟨(List.replicate 128 (255 : UInt8)).toArray⟩) (.int .i64 (k : Int))).run Try.prog W = .ok (.int .u8 255) W := by
  have hs : (⟨(List.replicate 128 (255 : UInt8)).toArray⟩ : ByteArray).size = 128 := by simp [ByteArray.size]
  rw [run_index_string W _ _ _ _ Try.underlying9, dif_pos ⟨by omega, by rw [hs]; omega⟩]
  have : (⟨(List.replicate 128 (255 : UInt8)).toArray⟩ : ByteArray)[(k : Int).toNat]'(by rw [hs]; omega) = 255 := by
    show (List.replicate 128 (255 : UInt8)).toArray[(k : Int).toNat]'_ = 255
    simp only [Int.toNat_natCast, List.getElem_toArray, List.getElem_replicate]
  rw [this]
  rfl

theorem slice_lo (a : Option Addr) (l : List Deed) (cap k : Nat) (hk : k ≤ l.length) (hc : l.length ≤ cap) : ∃ a' c', (∀ W, (Instr.slice 25 (.slice a l.length cap) (some (.int .i64 (k : Int))) none none).run Try.prog W = .ok (.slice a' (l.length - k) c') W) ∧
    ∀ n₀ W, RowOf 3 Deed.cell n₀ W (.slice a l.length cap) l → RowOf 3 Deed.cell n₀ W (.slice a' (l.length - k) c') (l.drop k) := by
  have ht : Try.prog.underlying 25 = some (.slice (Try.prog.elem 25)) := by kernel_rfl
  have he : Try.prog.elem 25 = 32 := by kernel_rfl
  refine ⟨if cap = k then a else a.map (·.add (k * 3)), cap - k, fun W => ?_, fun n₀ W h => ?_⟩
  · rw [run_slice_l W 25 _ _ _ ht .i64 _ (by omega) (by omega), he, Try.sizeOf32]
    simp only [Result.andThen, sliced, Int.toNat_natCast]
  · obtain ⟨a', cap', e, hm, h⟩ := h
    injection e with e1 e2 e3
    subst e1 e3
    refine ⟨_, _, by rw [List.length_drop], by rw [List.length_drop]; omega, ?_⟩
    by_cases hz : l.length = k
    · exact .inl (by rw [List.drop_eq_nil_iff]; omega)
    · rcases h with h | ⟨b, off, rfl, hb, hcell⟩
      · subst h; simp at hk hz; omega
      · refine .inr ⟨b, off + k * 3, ?_, hb, fun j x hj i hi => ?_⟩
        · rw [if_neg (by omega)]
          simp only [Option.map_some, Addr.add]
          by_cases h0 : k * 3 = 0
          · rw [if_pos h0, h0]
            rfl
          · rw [if_neg h0]
        · rw [List.getElem?_drop] at hj
          have := hcell (k + j) x hj i hi
          rw [show off + k * 3 + j * 3 + i = off + (k + j) * 3 + i by omega]
          exact this
theorem slice_hi (a : Option Addr) (l : List Deed) (cap k : Nat) (hk : k ≤ l.length) (hc : l.length ≤ cap) : ∃ a', (∀ W, (Instr.slice 25 (.slice a l.length cap) none (some (.int .i64 (k : Int))) none).run Try.prog W = .ok (.slice a' k cap) W) ∧
    ∀ n₀ W, RowOf 3 Deed.cell n₀ W (.slice a l.length cap) l → RowOf 3 Deed.cell n₀ W (.slice a' k cap) (l.take k) := by
  have ht : Try.prog.underlying 25 = some (.slice (Try.prog.elem 25)) := by kernel_rfl
  have he : Try.prog.elem 25 = 32 := by kernel_rfl
  have hm0 : (a.map (·.add 0)) = a := by
    cases a with
    | none => rfl
    | some x => simp [Addr.add]
  refine ⟨a, fun W => ?_, fun n₀ W h => ?_⟩
  · rw [run_slice_h W 25 _ _ _ ht .i64 _ (by omega) (by omega), he, Try.sizeOf32]
    simp only [Result.andThen, sliced, Int.toNat_natCast, Nat.zero_mul, hm0, ite_self, Nat.sub_zero]
  · obtain ⟨a', cap', e, hm, h⟩ := h
    injection e with e1 e2 e3
    subst e1 e3
    refine ⟨a, cap, by rw [List.length_take, Nat.min_eq_left hk], by rw [List.length_take]; omega, ?_⟩
    rcases h with h | ⟨b, off, rfl, hb, hcell⟩
    · exact .inl (by rw [h]; simp)
    · refine .inr ⟨b, off, rfl, hb, fun j x hj i hi => hcell j x ?_ i hi⟩
      rw [List.getElem?_take] at hj
      split at hj
      · exact hj
      · cases hj


set_option maxHeartbeats 16000000 in
theorem walk (F : List ByteArray) (c : Value) (l : List Deed) (vl : Value) (cut b : Int) (w : World) (hF : IsFl w.heap.size w c F) (hl : RowOf 3 Deed.cell w.heap.size w vl l) (hcap : CapIn vl) (hc : (Lit.int .i64 cut).wf = true) (hb : (Lit.int .i64 b).wf = true) :
    Calls Try.prog 3 #[.agg #[c], vl, .int .i64 cut, .int .i64 b] w fun e w' => e = .returned (.bool true) ∧ Below w.heap.size w w' := by
  have HBG : Hid (∀ W, Calls Try.prog 7 #[] W fun e w' => e = .returned (.bool true) ∧ Below W.heap.size W w') := flashBegun_any
  have HDO : Hid (∀ (X : List ByteArray) (L : List Deed) v vl W, IsFl W.heap.size W v X → RowOf 3 Deed.cell W.heap.size W vl L → Calls Try.prog 8 #[.agg #[v], vl] W fun e w' => (∃ r, e = .returned (.tuple #[.agg #[r], .int .i64 (chkDeeds X L)]) ∧ IsFl w'.heap.size w' r (doRes X L)) ∧ Below W.heap.size W w') := fun X L v vl W h1 h2 => do_doc X v L vl W h1 h2
  have HSF : Hid (∀ (X : List ByteArray) v v' W, IsFl W.heap.size W v X → IsFl W.heap.size W v' X → Calls Try.prog 9 #[.agg #[v], .agg #[v']] W fun e w' => e = .returned (.bool true) ∧ Below W.heap.size W w') := fun X v v' W h1 h2 => by
    have := sameFlash_any _ _ v v' W h1.1 h2.1
    rw [sameB_self] at this
    exact this
  obtain ⟨⟨ad, cap, rfl, _, _⟩, _⟩ := id hF
  obtain ⟨la, lcap, rfl, hlm, hlr⟩ := id hl
  have hcl := hcap _ _ _ rfl
  generalize F.length = nF at *
  have HB0 : Hid (Below w.heap.size w (w.alloc (.cells #[.slice ad nF cap] 24))) := (Below.refl _ _).alloc (Nat.le_refl _) _
  have Hf : Hid (CellsAt (w.alloc (.cells #[.slice ad nF cap] 24)) w.heap.size 24 #[.slice ad nF cap]) := CellsAt.new _ _ _
  have HF0 : Hid (IsFl (w.alloc (.cells #[.slice ad nF cap] 24)).heap.size (w.alloc (.cells #[.slice ad nF cap] 24)) (.slice ad nF cap) F) := (hF.below HB0.out).more HB0.out.size
  have HL0 : Hid (RowOf 3 Deed.cell (w.alloc (.cells #[.slice ad nF cap] 24)).heap.size (w.alloc (.cells #[.slice ad nF cap] 24)) (.slice la l.length lcap) l) := (hl.below HB0.out).more HB0.out.size
  have HFO : Hid (IsFl w.heap.size w (.slice ad nF cap) F) := hF
  have HLO : Hid (RowOf 3 Deed.cell w.heap.size w (.slice la l.length lcap) l) := hl
  have HLR : Hid (l = [] ∨ ∃ bl off, la = some ⟨bl, off, none⟩ ∧ bl < w.heap.size ∧ ∀ j x, l[j]? = some x → ∀ i, i < 3 → w.cell? ⟨bl, off + j * 3 + i, none⟩ = some (Deed.cell x i)) := hlr
  clear hF hl hcap hlr
  by_cases hE : chkDeeds F l ≠ 0
  · have hE1 : Hid (chkDeeds F l ≠ 0) := hE
    have hE2 : Hid (doRes F l = []) := if_neg hE
    have hE3 : (chkDeeds F l != 0) = true := by simpa using hE
    clear hE
    go_enter Try.func3, Try.ntmps3
    go_wp2_with fail
    generalize (w.alloc (.cells #[.slice ad nF cap] 24)) = w0 at *
    refine (HBG.out _).mono ?_
    rintro e wc1 ⟨rfl, bb1⟩
    replace HB0 : Hid (Below w.heap.size w wc1) := HB0.out.trans (bb1.mono HB0.out.size)
    replace Hf : Hid (CellsAt wc1 (w.heap.size) 24 #[.slice ad nF cap]) := Hf.out.below bb1 Hf.out.lt
    replace HF0 : Hid (IsFl wc1.heap.size wc1 (.slice ad nF cap) F) := (HF0.out.below bb1).more bb1.size
    replace HL0 : Hid (RowOf 3 Deed.cell wc1.heap.size wc1 (.slice la l.length lcap) l) := (HL0.out.below bb1).more bb1.size
    clear bb1
    have pl_Hf_0 := Hf.out.cell 0
    simp at pl_Hf_0
    have pl_Hf_lt := Hf.out.lt
    go_wp2_with fail
    clear pl_Hf_0 pl_Hf_lt
    refine (HDO.out F l _ _ _ HF0.out HL0.out).mono ?_
    rintro e wc2 ⟨⟨r1, rfl, hr1⟩, bb2⟩
    replace HB0 : Hid (Below w.heap.size w wc2) := HB0.out.trans (bb2.mono HB0.out.size)
    replace Hf : Hid (CellsAt wc2 (w.heap.size) 24 #[.slice ad nF cap]) := Hf.out.below bb2 Hf.out.lt
    replace HF0 : Hid (IsFl wc2.heap.size wc2 (.slice ad nF cap) F) := (HF0.out.below bb2).more bb2.size
    replace HL0 : Hid (RowOf 3 Deed.cell wc2.heap.size wc2 (.slice la l.length lcap) l) := (HL0.out.below bb2).more bb2.size
    clear bb2
    rw [hE2.out] at hr1
    obtain ⟨⟨a1, c1, rfl, _, _⟩, _⟩ := id hr1
    have HBZ : Hid (Below w.heap.size w (wc2.alloc (.cells #[.slice a1 0 c1] 24))) := HB0.out.alloc HB0.out.size _
    generalize chkDeeds F l = E at *
    clear hr1 HB0 Hf HF0 HL0 HDO HSF
    go_wp2
    go_ret
    exact ⟨rfl, HBZ.out⟩
  · replace hE : chkDeeds F l = 0 := Decidable.not_not.1 hE
    have hE1 : Hid (chkDeeds F l = 0) := hE
    have hE2 : Hid (doRes F l = doneAll F l) := if_pos hE
    have HDF : Hid (∀ v vl W, IsFl W.heap.size W v F → RowOf 3 Deed.cell W.heap.size W vl l → Calls Try.prog 8 #[.agg #[v], vl] W fun e w' => (∃ r, e = .returned (.tuple #[.agg #[r], .int .i64 0]) ∧ IsFl w'.heap.size w' r (doneAll F l)) ∧ Below W.heap.size W w') := fun v vl W h1 h2 => by
      have := HDO.out F l v vl W h1 h2
      rw [hE1.out, hE2.out] at this
      exact this
    have HPT : Hid (∀ k, chkDeeds F (l.take k) = 0 ∧ chkDeeds (doneAll F (l.take k)) (l.drop k) = 0 ∧ doneAll (doneAll F (l.take k)) (l.drop k) = doneAll F l ∧ GoodF F.length (doneAll F (l.take k))) := fun k => parts hE k
    have HON : Hid (∀ d ∈ l, chkDeeds (doneAll F l) [d] = 0) := fun d hd => one_of hE hd
    have HGA : Hid (chkFl (doneAll F l) = 0) := ((do_done (l := l) (goodF_iff.1 (chkDs_zero hE).1) (chkDs_zero hE).1).2 hE).2.chk
    clear hE
    go_enter Try.func3, Try.ntmps3
    go_wp2_with fail
    generalize (w.alloc (.cells #[.slice ad nF cap] 24)) = w0 at *
    refine (HBG.out _).mono ?_
    rintro e wc21 ⟨rfl, bb21⟩
    replace HB0 : Hid (Below w.heap.size w wc21) := HB0.out.trans (bb21.mono HB0.out.size)
    replace Hf : Hid (CellsAt wc21 (w.heap.size) 24 #[.slice ad nF cap]) := Hf.out.below bb21 Hf.out.lt
    replace HF0 : Hid (IsFl wc21.heap.size wc21 (.slice ad nF cap) F) := (HF0.out.below bb21).more bb21.size
    replace HL0 : Hid (RowOf 3 Deed.cell wc21.heap.size wc21 (.slice la l.length lcap) l) := (HL0.out.below bb21).more bb21.size
    clear bb21
    have pl_Hf_0 := Hf.out.cell 0
    simp at pl_Hf_0
    have pl_Hf_lt := Hf.out.lt
    go_wp2_with fail
    clear pl_Hf_0 pl_Hf_lt
    refine (HDF.out _ _ _ HF0.out HL0.out).mono ?_
    rintro e wc22 ⟨⟨r1, rfl, hr1⟩, bb22⟩
    replace HB0 : Hid (Below w.heap.size w wc22) := HB0.out.trans (bb22.mono HB0.out.size)
    replace Hf : Hid (CellsAt wc22 (w.heap.size) 24 #[.slice ad nF cap]) := Hf.out.below bb22 Hf.out.lt
    replace HF0 : Hid (IsFl wc22.heap.size wc22 (.slice ad nF cap) F) := (HF0.out.below bb22).more bb22.size
    replace HL0 : Hid (RowOf 3 Deed.cell wc22.heap.size wc22 (.slice la l.length lcap) l) := (HL0.out.below bb22).more bb22.size
    clear bb22
    obtain ⟨⟨a1, c1, rfl, _, _⟩, _⟩ := id hr1
    generalize doneAll F l = A at *
    have HA : Hid (IsFl wc22.heap.size wc22 (.slice a1 A.length c1) A) := hr1
    clear hr1 HDF hE2
    replace HB0 : Hid (Below w.heap.size w (wc22.alloc (.cells #[.slice a1 A.length c1] 24))) := HB0.out.alloc HB0.out.size _
    replace Hf : Hid (CellsAt (wc22.alloc (.cells #[.slice a1 A.length c1] 24)) (w.heap.size) 24 #[.slice ad nF cap]) := Hf.out.kept (World.grownBy_alloc _ _ none) (by simp)
    replace HF0 : Hid (IsFl (wc22.alloc (.cells #[.slice a1 A.length c1] 24)).heap.size (wc22.alloc (.cells #[.slice a1 A.length c1] 24)) (.slice ad nF cap) F) := (HF0.out.below ((Below.refl _ _).alloc (Nat.le_refl _) _)).more (by simp)
    replace HL0 : Hid (RowOf 3 Deed.cell (wc22.alloc (.cells #[.slice a1 A.length c1] 24)).heap.size (wc22.alloc (.cells #[.slice a1 A.length c1] 24)) (.slice la l.length lcap) l) := (HL0.out.below ((Below.refl _ _).alloc (Nat.le_refl _) _)).more (by simp)
    replace HA : Hid (IsFl (wc22.alloc (.cells #[.slice a1 A.length c1] 24)).heap.size (wc22.alloc (.cells #[.slice a1 A.length c1] 24)) (.slice a1 A.length c1) A) := (HA.out.below ((Below.refl _ _).alloc (Nat.le_refl _) _)).more (by simp)
    have H9 : Hid (CellsAt (wc22.alloc (.cells #[.slice a1 A.length c1] 24)) (wc22.heap.size) 24 #[.slice a1 A.length c1]) := by first | exact CellsAt.new _ _ _ | (have := CellsAt.new wc22 24 #[.slice a1 A.length c1]; simp only [World.size_alloc] at this; exact this)
    go_upto_region 6 with fail
    generalize (wc22.alloc (.cells #[.slice a1 A.length c1] 24)) = w2 at *
    go_cut [44] from 45 (fun s44 wx => (∃ bq : Bool, s44 = .bool bq ∧ Hid (bq = true → ∃ k : Nat, cut = k ∧ k ≤ l.length)) ∧ wx = w2)
    case first =>
      by_cases h1 : 0 ≤ cut
      · by_cases h2 : cut ≤ (l.length : Int)
        · have d1 : decide (0 ≤ cut) = true := decide_eq_true h1
          have d2 : decide (cut ≤ (l.length : Int)) = true := decide_eq_true h2
          have hk : Hid (∃ k : Nat, cut = k ∧ k ≤ l.length) := ⟨cut.toNat, by omega, by omega⟩
          clear h1 h2
          go_wp2_with fail
          go_meet
          exact ⟨⟨true, rfl, fun _ => hk.out⟩, rfl⟩
        · have d1 : decide (0 ≤ cut) = true := decide_eq_true h1
          have d2 : decide (cut ≤ (l.length : Int)) = false := decide_eq_false h2
          clear h1 h2
          go_wp2_with fail
          go_meet
          exact ⟨⟨false, rfl, fun h => by cases h⟩, rfl⟩
      · have d1 : decide (0 ≤ cut) = false := decide_eq_false h1
        clear h1
        go_wp2_with fail
        go_meet
        exact ⟨⟨false, rfl, fun h => by cases h⟩, rfl⟩
    case rest =>
    obtain ⟨⟨bq, rfl, HBQ⟩, rfl⟩ := hcut
    go_upto_if 44 with fail
    go_cut [] from 44 (fun wx => Hid (Below w.heap.size w wx) ∧ Hid (CellsAt wx (w.heap.size) 24 #[.slice ad nF cap]) ∧ Hid (IsFl wx.heap.size wx (.slice ad nF cap) F) ∧ Hid (RowOf 3 Deed.cell wx.heap.size wx (.slice la l.length lcap) l) ∧ Hid (IsFl wx.heap.size wx (.slice a1 A.length c1) A) ∧ Hid (CellsAt wx (wc22.heap.size) 24 #[.slice a1 A.length c1]))
    case first =>
      cases bq
      · go_wp2_with fail
        go_meet
        exact ⟨HB0.out, Hf.out, HF0.out, HL0.out, HA.out, H9.out⟩
      · obtain ⟨k, rfl, hk⟩ := HBQ.out rfl
        obtain ⟨a', hs1, hr1⟩ := slice_hi la l lcap k hk hcl
        obtain ⟨a'', c'', hs2, hr2⟩ := slice_lo la l lcap k hk hcl
        have HR1 : Hid (∀ n₀ W, RowOf 3 Deed.cell n₀ W (.slice la l.length lcap) l → RowOf 3 Deed.cell n₀ W (.slice a' k lcap) (l.take k)) := hr1
        have HR2 : Hid (∀ n₀ W, RowOf 3 Deed.cell n₀ W (.slice la l.length lcap) l → RowOf 3 Deed.cell n₀ W (.slice a'' (l.length - k) c'') (l.drop k)) := hr2
        obtain ⟨p1, p2, p3, -⟩ := HPT.out k
        have HD1 : Hid (∀ v vl W, IsFl W.heap.size W v F → RowOf 3 Deed.cell W.heap.size W vl (l.take k) → Calls Try.prog 8 #[.agg #[v], vl] W fun e w' => (∃ r, e = .returned (.tuple #[.agg #[r], .int .i64 0]) ∧ IsFl w'.heap.size w' r (doneAll F (l.take k))) ∧ Below W.heap.size W w') := fun v vl W h1 h2 => by
          have := HDO.out F _ v vl W h1 h2
          rw [show doRes F (l.take k) = doneAll F (l.take k) from if_pos p1, p1] at this
          exact this
        have HD2 : Hid (∀ v vl W, IsFl W.heap.size W v (doneAll F (l.take k)) → RowOf 3 Deed.cell W.heap.size W vl (l.drop k) → Calls Try.prog 8 #[.agg #[v], vl] W fun e w' => (∃ r, e = .returned (.tuple #[.agg #[r], .int .i64 0]) ∧ IsFl w'.heap.size w' r A) ∧ Below W.heap.size W w') := fun v vl W h1 h2 => by
          have := HDO.out _ _ v vl W h1 h2
          rw [show doRes (doneAll F (l.take k)) (l.drop k) = A from (if_pos p2).trans p3, p2] at this
          exact this
        generalize doneAll F (l.take k) = X at *
        generalize l.length - k = nk at *
        clear p1 p2 p3 hr1 hr2 HBQ
        go_upto_region 7 with fail
        go_cut [11, 12] from 45 (fun s11 s12 wx => (∃ (Bn : Nat) (vn : Value), s11 = .pointer (some ⟨Bn, 0, none⟩) ∧ s12 = .int .i64 0 ∧ Hid (CellsAt wx Bn 24 #[vn]) ∧ Hid (IsFl wx.heap.size wx vn X)) ∧ Hid (Below w.heap.size w wx) ∧ Hid (CellsAt wx (w.heap.size) 24 #[.slice ad nF cap]) ∧ Hid (IsFl wx.heap.size wx (.slice ad nF cap) F) ∧ Hid (RowOf 3 Deed.cell wx.heap.size wx (.slice la l.length lcap) l) ∧ Hid (IsFl wx.heap.size wx (.slice a1 A.length c1) A) ∧ Hid (CellsAt wx (wc22.heap.size) 24 #[.slice a1 A.length c1]))
        case first =>
          replace HB0 : Hid (Below w.heap.size w wc.drew) := HB0.out.drew
          replace Hf : Hid (CellsAt wc.drew (w.heap.size) 24 #[.slice ad nF cap]) := (Hf.out : _)
          replace HF0 : Hid (IsFl wc.drew.heap.size wc.drew (.slice ad nF cap) F) := (HF0.out : _)
          replace HL0 : Hid (RowOf 3 Deed.cell wc.drew.heap.size wc.drew (.slice la l.length lcap) l) := (HL0.out : _)
          replace HA : Hid (IsFl wc.drew.heap.size wc.drew (.slice a1 A.length c1) A) := (HA.out : _)
          replace H9 : Hid (CellsAt wc.drew (wc22.heap.size) 24 #[.slice a1 A.length c1]) := (H9.out : _)
          refine wp_region_noPanic ?_
          refine wp_region_L (S := fun w' => CellsAt w' w.heap.size 24 #[.slice ad nF cap]) (x := 10) (by kernel_rfl) ?_
          generalize wc.drew = wd at *
          have hS0 : CellsAt wd w.heap.size 24 #[.slice ad nF cap] := Hf.out
          refine wpL_take 0 46 (.agg #[.slice ad nF cap]) rfl (by kernel_rfl) (fun _ _ _ h => h) hS0 rfl rfl (fun w' hSw => by have q := CellsAt.cell hSw 0; simp at q; clear hSw; go_simp) ?_
          simp only [List.setIfInBounds_toArray, List.set_cons_zero, List.set_cons_succ]
          refine wpL_take 1 47 (.slice la l.length lcap) rfl (by kernel_rfl) (fun _ _ _ h => h) hS0 rfl rfl (fun w' hSw => by clear hSw; go_simp) ?_
          simp only [List.setIfInBounds_toArray, List.set_cons_zero, List.set_cons_succ]
          refine wpL_take 2 48 (.int .i64 (k : Int)) rfl (by kernel_rfl) (fun _ _ _ h => h) hS0 rfl rfl (fun w' hSw => by clear hSw; go_simp) ?_
          simp only [List.setIfInBounds_toArray, List.set_cons_zero, List.set_cons_succ]
          refine wpL_take 3 49 (.slice a' k lcap) rfl (by kernel_rfl) (fun _ _ _ h => h) hS0 rfl rfl (fun w' hSw => by clear hSw; go_simp) ?_
          simp only [List.setIfInBounds_toArray, List.set_cons_zero, List.set_cons_succ]
          clear hS0
          refine wpL_two (i := 4) (j := 8) rfl rfl (by kernel_rfl) (fun K hK => ?_) (fun K hK => ?_)
          · skip
            go_simp
            refine (HD1.out _ _ _ HF0.out (HR1.out _ _ HL0.out)).mono ?_
            rintro e wc24 ⟨⟨rq, rfl, hrq⟩, bb24⟩
            replace HB0 : Hid (Below w.heap.size w wc24) := HB0.out.trans (bb24.mono HB0.out.size)
            replace Hf : Hid (CellsAt wc24 (w.heap.size) 24 #[.slice ad nF cap]) := Hf.out.below bb24 Hf.out.lt
            replace HF0 : Hid (IsFl wc24.heap.size wc24 (.slice ad nF cap) F) := (HF0.out.below bb24).more bb24.size
            replace HL0 : Hid (RowOf 3 Deed.cell wc24.heap.size wc24 (.slice la l.length lcap) l) := (HL0.out.below bb24).more bb24.size
            replace HA : Hid (IsFl wc24.heap.size wc24 (.slice a1 A.length c1) A) := (HA.out.below bb24).more bb24.size
            replace H9 : Hid (CellsAt wc24 (wc22.heap.size) 24 #[.slice a1 A.length c1]) := H9.out.below bb24 H9.out.lt
            clear bb24
            obtain ⟨⟨aq, cq, rfl, _, _⟩, _⟩ := id hrq
            have HQ : Hid (IsFl wc24.heap.size wc24 (.slice aq X.length cq) X) := hrq
            clear hrq
            go_simp
            refine hK.out _ _ Hf.out (fun _ => ?_)
            clear hK K
            refine wpL_take 5 45 (.tuple #[.agg #[.slice aq X.length cq], .int .i64 0]) rfl (by kernel_rfl) (fun _ _ _ h => h) (show _ from Hf.out) rfl rfl (fun w' hSw => by clear hSw; go_simp) ?_
            simp only [List.setIfInBounds_toArray, List.set_cons_zero, List.set_cons_succ]
            refine wpL_take 6 51 (.agg #[.slice aq X.length cq]) rfl (by kernel_rfl) (fun _ _ _ h => h) (show _ from Hf.out) rfl rfl (fun w' hSw => by clear hSw; go_simp) ?_
            simp only [List.setIfInBounds_toArray, List.set_cons_zero, List.set_cons_succ]
            refine wpL_take 7 52 (.int .i64 0) rfl (by kernel_rfl) (fun _ _ _ h => h) (show _ from Hf.out) rfl rfl (fun w' hSw => by clear hSw; go_simp) ?_
            simp only [List.setIfInBounds_toArray, List.set_cons_zero, List.set_cons_succ]
            refine wpL_step (i := 8) rfl (by kernel_rfl) (fun K hK => ?_)
            go_simp
            have LTHf := Hf.out.lt
            have LTH9 := H9.out.lt
            replace HB0 : Hid (Below w.heap.size w (wc24.alloc (.cells #[.slice none 0 0] 24))) := HB0.out.alloc HB0.out.size _
            replace Hf : Hid (CellsAt (wc24.alloc (.cells #[.slice none 0 0] 24)) (w.heap.size) 24 #[.slice ad nF cap]) := Hf.out.kept (World.grownBy_alloc _ _ none) (by simp)
            replace HF0 : Hid (IsFl (wc24.alloc (.cells #[.slice none 0 0] 24)).heap.size (wc24.alloc (.cells #[.slice none 0 0] 24)) (.slice ad nF cap) F) := (HF0.out.below ((Below.refl _ _).alloc (Nat.le_refl _) _)).more (by simp)
            replace HL0 : Hid (RowOf 3 Deed.cell (wc24.alloc (.cells #[.slice none 0 0] 24)).heap.size (wc24.alloc (.cells #[.slice none 0 0] 24)) (.slice la l.length lcap) l) := (HL0.out.below ((Below.refl _ _).alloc (Nat.le_refl _) _)).more (by simp)
            replace HA : Hid (IsFl (wc24.alloc (.cells #[.slice none 0 0] 24)).heap.size (wc24.alloc (.cells #[.slice none 0 0] 24)) (.slice a1 A.length c1) A) := (HA.out.below ((Below.refl _ _).alloc (Nat.le_refl _) _)).more (by simp)
            replace H9 : Hid (CellsAt (wc24.alloc (.cells #[.slice none 0 0] 24)) (wc22.heap.size) 24 #[.slice a1 A.length c1]) := H9.out.kept (World.grownBy_alloc _ _ none) (by simp)
            replace HQ : Hid (IsFl (wc24.alloc (.cells #[.slice none 0 0] 24)).heap.size (wc24.alloc (.cells #[.slice none 0 0] 24)) (.slice aq X.length cq) X) := (HQ.out.below ((Below.refl _ _).alloc (Nat.le_refl _) _)).more (by simp)
            have HN : Hid (CellsAt (wc24.alloc (.cells #[.slice none 0 0] 24)) (wc24.heap.size) 24 #[.slice none 0 0]) := CellsAt.new _ _ _
            refine hK.out _ _ Hf.out (fun _ => ?_)
            clear hK K
            generalize (wc24.alloc (.cells #[.slice none 0 0] 24)) = wq at *
            refine wpL_step (i := 9) rfl (by kernel_rfl) (fun K hK => ?_)
            have pq0 := HN.out.cell 0
            have pq1 := HN.out.frozen 0
            simp at pq0
            go_simp
            clear pq0 pq1
            have gs := grown_set wq (wc24.heap.size) 0 (.slice aq X.length cq)
            have zc := HN.out.set 0 (.slice aq X.length cq)
            simp only [List.setIfInBounds_toArray, List.set_cons_zero] at zc
            have hb9 := HB0.out.setCell (p := ⟨wc24.heap.size, 0, none⟩) (by simp; omega) (.slice aq X.length cq)
            have n_HB0 : Hid (Below w.heap.size w (wq.setCell ⟨wc24.heap.size, 0, none⟩ (.slice aq X.length cq))) := hb9
            have n_Hf : Hid (CellsAt (wq.setCell ⟨wc24.heap.size, 0, none⟩ (.slice aq X.length cq)) (w.heap.size) 24 #[.slice ad nF cap]) := Hf.out.kept gs (by intro e; injection e with e; omega)
            have n_HF0 : Hid (IsFl (wq.setCell ⟨wc24.heap.size, 0, none⟩ (.slice aq X.length cq)).heap.size (wq.setCell ⟨wc24.heap.size, 0, none⟩ (.slice aq X.length cq)) (.slice ad nF cap) F) := (HFO.out.below hb9).more hb9.size
            have n_HL0 : Hid (RowOf 3 Deed.cell (wq.setCell ⟨wc24.heap.size, 0, none⟩ (.slice aq X.length cq)).heap.size (wq.setCell ⟨wc24.heap.size, 0, none⟩ (.slice aq X.length cq)) (.slice la l.length lcap) l) := (HLO.out.below hb9).more hb9.size
            have n_HA : Hid (IsFl (wq.setCell ⟨wc24.heap.size, 0, none⟩ (.slice aq X.length cq)).heap.size (wq.setCell ⟨wc24.heap.size, 0, none⟩ (.slice aq X.length cq)) (.slice a1 A.length c1) A) := (HA.out.stored HN.out (fun s h => by cases h) _).more (by simp [World.setCell])
            have n_H9 : Hid (CellsAt (wq.setCell ⟨wc24.heap.size, 0, none⟩ (.slice aq X.length cq)) (wc22.heap.size) 24 #[.slice a1 A.length c1]) := H9.out.kept gs (by intro e; injection e with e; omega)
            have n_HQ : Hid (IsFl (wq.setCell ⟨wc24.heap.size, 0, none⟩ (.slice aq X.length cq)).heap.size (wq.setCell ⟨wc24.heap.size, 0, none⟩ (.slice aq X.length cq)) (.slice aq X.length cq) X) := (HQ.out.stored HN.out (fun s h => by cases h) _).more (by simp [World.setCell])
            have n_HN : Hid (CellsAt (wq.setCell ⟨wc24.heap.size, 0, none⟩ (.slice aq X.length cq)) (wc24.heap.size) 24 #[.slice aq X.length cq]) := zc
            clear gs zc hb9 HB0 Hf HF0 HL0 HA H9 HQ HN
            have HB0 := n_HB0
            clear n_HB0
            have Hf := n_Hf
            clear n_Hf
            have HF0 := n_HF0
            clear n_HF0
            have HL0 := n_HL0
            clear n_HL0
            have HA := n_HA
            clear n_HA
            have H9 := n_H9
            clear n_H9
            have HQ := n_HQ
            clear n_HQ
            have HN := n_HN
            clear n_HN
            refine hK.out _ _ Hf.out (fun _ => ?_)
            clear hK K
            refine wpL_last (x := 10) rfl (by kernel_rfl) (by kernel_rfl) (fun K hK => ?_)
            go_simp
            refine hK.out _ _ ?_
            refine NoPanic.normal ?_
            clear hK K
            go_wp2_with fail
            go_meet
            exact ⟨⟨_, _, rfl, rfl, HN, HQ⟩, HB0, Hf, HF0, HL0, HA, H9⟩
          · skip
            go_simp
            have LTHf := Hf.out.lt
            have LTH9 := H9.out.lt
            replace HB0 : Hid (Below w.heap.size w (wd.alloc (.cells #[.slice none 0 0] 24))) := HB0.out.alloc HB0.out.size _
            replace Hf : Hid (CellsAt (wd.alloc (.cells #[.slice none 0 0] 24)) (w.heap.size) 24 #[.slice ad nF cap]) := Hf.out.kept (World.grownBy_alloc _ _ none) (by simp)
            replace HF0 : Hid (IsFl (wd.alloc (.cells #[.slice none 0 0] 24)).heap.size (wd.alloc (.cells #[.slice none 0 0] 24)) (.slice ad nF cap) F) := (HF0.out.below ((Below.refl _ _).alloc (Nat.le_refl _) _)).more (by simp)
            replace HL0 : Hid (RowOf 3 Deed.cell (wd.alloc (.cells #[.slice none 0 0] 24)).heap.size (wd.alloc (.cells #[.slice none 0 0] 24)) (.slice la l.length lcap) l) := (HL0.out.below ((Below.refl _ _).alloc (Nat.le_refl _) _)).more (by simp)
            replace HA : Hid (IsFl (wd.alloc (.cells #[.slice none 0 0] 24)).heap.size (wd.alloc (.cells #[.slice none 0 0] 24)) (.slice a1 A.length c1) A) := (HA.out.below ((Below.refl _ _).alloc (Nat.le_refl _) _)).more (by simp)
            replace H9 : Hid (CellsAt (wd.alloc (.cells #[.slice none 0 0] 24)) (wc22.heap.size) 24 #[.slice a1 A.length c1]) := H9.out.kept (World.grownBy_alloc _ _ none) (by simp)
            have HN : Hid (CellsAt (wd.alloc (.cells #[.slice none 0 0] 24)) (wd.heap.size) 24 #[.slice none 0 0]) := CellsAt.new _ _ _
            refine hK.out _ _ Hf.out (fun _ => ?_)
            clear hK K
            generalize (wd.alloc (.cells #[.slice none 0 0] 24)) = wq at *
            refine wpL_step (i := 4) rfl (by kernel_rfl) (fun K hK => ?_)
            go_simp
            refine (HD1.out _ _ _ HF0.out (HR1.out _ _ HL0.out)).mono ?_
            rintro e wc27 ⟨⟨rq, rfl, hrq⟩, bb27⟩
            replace HB0 : Hid (Below w.heap.size w wc27) := HB0.out.trans (bb27.mono HB0.out.size)
            replace Hf : Hid (CellsAt wc27 (w.heap.size) 24 #[.slice ad nF cap]) := Hf.out.below bb27 Hf.out.lt
            replace HF0 : Hid (IsFl wc27.heap.size wc27 (.slice ad nF cap) F) := (HF0.out.below bb27).more bb27.size
            replace HL0 : Hid (RowOf 3 Deed.cell wc27.heap.size wc27 (.slice la l.length lcap) l) := (HL0.out.below bb27).more bb27.size
            replace HA : Hid (IsFl wc27.heap.size wc27 (.slice a1 A.length c1) A) := (HA.out.below bb27).more bb27.size
            replace H9 : Hid (CellsAt wc27 (wc22.heap.size) 24 #[.slice a1 A.length c1]) := H9.out.below bb27 H9.out.lt
            replace HN : Hid (CellsAt wc27 (wd.heap.size) 24 #[.slice none 0 0]) := HN.out.below bb27 HN.out.lt
            clear bb27
            obtain ⟨⟨aq, cq, rfl, _, _⟩, _⟩ := id hrq
            have HQ : Hid (IsFl wc27.heap.size wc27 (.slice aq X.length cq) X) := hrq
            clear hrq
            go_simp
            refine hK.out _ _ Hf.out (fun _ => ?_)
            clear hK K
            refine wpL_take 5 45 (.tuple #[.agg #[.slice aq X.length cq], .int .i64 0]) rfl (by kernel_rfl) (fun _ _ _ h => h) (show _ from Hf.out) rfl rfl (fun w' hSw => by clear hSw; go_simp) ?_
            simp only [List.setIfInBounds_toArray, List.set_cons_zero, List.set_cons_succ]
            refine wpL_take 6 51 (.agg #[.slice aq X.length cq]) rfl (by kernel_rfl) (fun _ _ _ h => h) (show _ from Hf.out) rfl rfl (fun w' hSw => by clear hSw; go_simp) ?_
            simp only [List.setIfInBounds_toArray, List.set_cons_zero, List.set_cons_succ]
            refine wpL_take 7 52 (.int .i64 0) rfl (by kernel_rfl) (fun _ _ _ h => h) (show _ from Hf.out) rfl rfl (fun w' hSw => by clear hSw; go_simp) ?_
            simp only [List.setIfInBounds_toArray, List.set_cons_zero, List.set_cons_succ]
            refine wpL_step (i := 9) rfl (by kernel_rfl) (fun K hK => ?_)
            have pq0 := HN.out.cell 0
            have pq1 := HN.out.frozen 0
            simp at pq0
            go_simp
            clear pq0 pq1
            have gs := grown_set wc27 (wd.heap.size) 0 (.slice aq X.length cq)
            have zc := HN.out.set 0 (.slice aq X.length cq)
            simp only [List.setIfInBounds_toArray, List.set_cons_zero] at zc
            have hb9 := HB0.out.setCell (p := ⟨wd.heap.size, 0, none⟩) (by simp; omega) (.slice aq X.length cq)
            have n_HB0 : Hid (Below w.heap.size w (wc27.setCell ⟨wd.heap.size, 0, none⟩ (.slice aq X.length cq))) := hb9
            have n_Hf : Hid (CellsAt (wc27.setCell ⟨wd.heap.size, 0, none⟩ (.slice aq X.length cq)) (w.heap.size) 24 #[.slice ad nF cap]) := Hf.out.kept gs (by intro e; injection e with e; omega)
            have n_HF0 : Hid (IsFl (wc27.setCell ⟨wd.heap.size, 0, none⟩ (.slice aq X.length cq)).heap.size (wc27.setCell ⟨wd.heap.size, 0, none⟩ (.slice aq X.length cq)) (.slice ad nF cap) F) := (HFO.out.below hb9).more hb9.size
            have n_HL0 : Hid (RowOf 3 Deed.cell (wc27.setCell ⟨wd.heap.size, 0, none⟩ (.slice aq X.length cq)).heap.size (wc27.setCell ⟨wd.heap.size, 0, none⟩ (.slice aq X.length cq)) (.slice la l.length lcap) l) := (HLO.out.below hb9).more hb9.size
            have n_HA : Hid (IsFl (wc27.setCell ⟨wd.heap.size, 0, none⟩ (.slice aq X.length cq)).heap.size (wc27.setCell ⟨wd.heap.size, 0, none⟩ (.slice aq X.length cq)) (.slice a1 A.length c1) A) := (HA.out.stored HN.out (fun s h => by cases h) _).more (by simp [World.setCell])
            have n_H9 : Hid (CellsAt (wc27.setCell ⟨wd.heap.size, 0, none⟩ (.slice aq X.length cq)) (wc22.heap.size) 24 #[.slice a1 A.length c1]) := H9.out.kept gs (by intro e; injection e with e; omega)
            have n_HQ : Hid (IsFl (wc27.setCell ⟨wd.heap.size, 0, none⟩ (.slice aq X.length cq)).heap.size (wc27.setCell ⟨wd.heap.size, 0, none⟩ (.slice aq X.length cq)) (.slice aq X.length cq) X) := (HQ.out.stored HN.out (fun s h => by cases h) _).more (by simp [World.setCell])
            have n_HN : Hid (CellsAt (wc27.setCell ⟨wd.heap.size, 0, none⟩ (.slice aq X.length cq)) (wd.heap.size) 24 #[.slice aq X.length cq]) := zc
            clear gs zc hb9 HB0 Hf HF0 HL0 HA H9 HN HQ
            have HB0 := n_HB0
            clear n_HB0
            have Hf := n_Hf
            clear n_Hf
            have HF0 := n_HF0
            clear n_HF0
            have HL0 := n_HL0
            clear n_HL0
            have HA := n_HA
            clear n_HA
            have H9 := n_H9
            clear n_H9
            have HN := n_HN
            clear n_HN
            have HQ := n_HQ
            clear n_HQ
            refine hK.out _ _ Hf.out (fun _ => ?_)
            clear hK K
            refine wpL_last (x := 10) rfl (by kernel_rfl) (by kernel_rfl) (fun K hK => ?_)
            go_simp
            refine hK.out _ _ ?_
            refine NoPanic.normal ?_
            clear hK K
            go_wp2_with fail
            go_meet
            exact ⟨⟨_, _, rfl, rfl, HN, HQ⟩, HB0, Hf, HF0, HL0, HA, H9⟩
        case rest =>
        obtain ⟨⟨B11, v11, rfl, rfl, H11, HX⟩, HB0, Hf, HF0, HL0, HA, H9⟩ := hcut
        obtain ⟨w31, hw31⟩ : ∃ x, x = wc := ⟨_, rfl⟩
        subst hw31
        obtain ⟨⟨a11, c11, rfl, _, _⟩, _⟩ := id HX.out
        go_upto_region 8 with fail
        go_cut [13, 14] from 45 (fun s13 s14 wx => (∃ (Bn : Nat) (vn : Value), s13 = .pointer (some ⟨Bn, 0, none⟩) ∧ s14 = .int .i64 0 ∧ Hid (CellsAt wx Bn 24 #[vn]) ∧ Hid (IsFl wx.heap.size wx vn A)) ∧ Hid (Below w.heap.size w wx) ∧ Hid (CellsAt wx (w.heap.size) 24 #[.slice ad nF cap]) ∧ Hid (IsFl wx.heap.size wx (.slice ad nF cap) F) ∧ Hid (RowOf 3 Deed.cell wx.heap.size wx (.slice la l.length lcap) l) ∧ Hid (IsFl wx.heap.size wx (.slice a1 A.length c1) A) ∧ Hid (CellsAt wx (wc22.heap.size) 24 #[.slice a1 A.length c1]) ∧ Hid (CellsAt wx (B11) 24 #[.slice a11 X.length c11]) ∧ Hid (IsFl wx.heap.size wx (.slice a11 X.length c11) X))
        case first =>
          replace HB0 : Hid (Below w.heap.size w w31.drew) := HB0.out.drew
          replace Hf : Hid (CellsAt w31.drew (w.heap.size) 24 #[.slice ad nF cap]) := (Hf.out : _)
          replace HF0 : Hid (IsFl w31.drew.heap.size w31.drew (.slice ad nF cap) F) := (HF0.out : _)
          replace HL0 : Hid (RowOf 3 Deed.cell w31.drew.heap.size w31.drew (.slice la l.length lcap) l) := (HL0.out : _)
          replace HA : Hid (IsFl w31.drew.heap.size w31.drew (.slice a1 A.length c1) A) := (HA.out : _)
          replace H9 : Hid (CellsAt w31.drew (wc22.heap.size) 24 #[.slice a1 A.length c1]) := (H9.out : _)
          replace H11 : Hid (CellsAt w31.drew (B11) 24 #[.slice a11 X.length c11]) := (H11.out : _)
          replace HX : Hid (IsFl w31.drew.heap.size w31.drew (.slice a11 X.length c11) X) := (HX.out : _)
          refine wp_region_noPanic ?_
          refine wp_region_L (S := fun w' => CellsAt w' B11 24 #[.slice a11 X.length c11]) (x := 10) (by kernel_rfl) ?_
          generalize w31.drew = wd at *
          have hS0 : CellsAt wd B11 24 #[.slice a11 X.length c11] := H11.out
          refine wpL_take 0 54 (.agg #[.slice a11 X.length c11]) rfl (by kernel_rfl) (fun _ _ _ h => h) hS0 rfl rfl (fun w' hSw => by have q := CellsAt.cell hSw 0; simp at q; clear hSw; go_simp) ?_
          simp only [List.setIfInBounds_toArray, List.set_cons_zero, List.set_cons_succ]
          refine wpL_take 1 55 (.slice la l.length lcap) rfl (by kernel_rfl) (fun _ _ _ h => h) hS0 rfl rfl (fun w' hSw => by clear hSw; go_simp) ?_
          simp only [List.setIfInBounds_toArray, List.set_cons_zero, List.set_cons_succ]
          refine wpL_take 2 56 (.int .i64 (k : Int)) rfl (by kernel_rfl) (fun _ _ _ h => h) hS0 rfl rfl (fun w' hSw => by clear hSw; go_simp) ?_
          simp only [List.setIfInBounds_toArray, List.set_cons_zero, List.set_cons_succ]
          refine wpL_take 3 57 (.slice a'' nk c'') rfl (by kernel_rfl) (fun _ _ _ h => h) hS0 rfl rfl (fun w' hSw => by clear hSw; go_simp) ?_
          simp only [List.setIfInBounds_toArray, List.set_cons_zero, List.set_cons_succ]
          clear hS0
          refine wpL_two (i := 4) (j := 8) rfl rfl (by kernel_rfl) (fun K hK => ?_) (fun K hK => ?_)
          · skip
            go_simp
            refine (HD2.out _ _ _ HX.out (HR2.out _ _ HL0.out)).mono ?_
            rintro e wc28 ⟨⟨rq, rfl, hrq⟩, bb28⟩
            replace HB0 : Hid (Below w.heap.size w wc28) := HB0.out.trans (bb28.mono HB0.out.size)
            replace Hf : Hid (CellsAt wc28 (w.heap.size) 24 #[.slice ad nF cap]) := Hf.out.below bb28 Hf.out.lt
            replace HF0 : Hid (IsFl wc28.heap.size wc28 (.slice ad nF cap) F) := (HF0.out.below bb28).more bb28.size
            replace HL0 : Hid (RowOf 3 Deed.cell wc28.heap.size wc28 (.slice la l.length lcap) l) := (HL0.out.below bb28).more bb28.size
            replace HA : Hid (IsFl wc28.heap.size wc28 (.slice a1 A.length c1) A) := (HA.out.below bb28).more bb28.size
            replace H9 : Hid (CellsAt wc28 (wc22.heap.size) 24 #[.slice a1 A.length c1]) := H9.out.below bb28 H9.out.lt
            replace H11 : Hid (CellsAt wc28 (B11) 24 #[.slice a11 X.length c11]) := H11.out.below bb28 H11.out.lt
            replace HX : Hid (IsFl wc28.heap.size wc28 (.slice a11 X.length c11) X) := (HX.out.below bb28).more bb28.size
            clear bb28
            obtain ⟨⟨aq, cq, rfl, _, _⟩, _⟩ := id hrq
            have HQ : Hid (IsFl wc28.heap.size wc28 (.slice aq A.length cq) A) := hrq
            clear hrq
            go_simp
            refine hK.out _ _ H11.out (fun _ => ?_)
            clear hK K
            refine wpL_take 5 53 (.tuple #[.agg #[.slice aq A.length cq], .int .i64 0]) rfl (by kernel_rfl) (fun _ _ _ h => h) (show _ from H11.out) rfl rfl (fun w' hSw => by clear hSw; go_simp) ?_
            simp only [List.setIfInBounds_toArray, List.set_cons_zero, List.set_cons_succ]
            refine wpL_take 6 59 (.agg #[.slice aq A.length cq]) rfl (by kernel_rfl) (fun _ _ _ h => h) (show _ from H11.out) rfl rfl (fun w' hSw => by clear hSw; go_simp) ?_
            simp only [List.setIfInBounds_toArray, List.set_cons_zero, List.set_cons_succ]
            refine wpL_take 7 60 (.int .i64 0) rfl (by kernel_rfl) (fun _ _ _ h => h) (show _ from H11.out) rfl rfl (fun w' hSw => by clear hSw; go_simp) ?_
            simp only [List.setIfInBounds_toArray, List.set_cons_zero, List.set_cons_succ]
            refine wpL_step (i := 8) rfl (by kernel_rfl) (fun K hK => ?_)
            go_simp
            have LTHf := Hf.out.lt
            have LTH9 := H9.out.lt
            have LTH11 := H11.out.lt
            replace HB0 : Hid (Below w.heap.size w (wc28.alloc (.cells #[.slice none 0 0] 24))) := HB0.out.alloc HB0.out.size _
            replace Hf : Hid (CellsAt (wc28.alloc (.cells #[.slice none 0 0] 24)) (w.heap.size) 24 #[.slice ad nF cap]) := Hf.out.kept (World.grownBy_alloc _ _ none) (by simp)
            replace HF0 : Hid (IsFl (wc28.alloc (.cells #[.slice none 0 0] 24)).heap.size (wc28.alloc (.cells #[.slice none 0 0] 24)) (.slice ad nF cap) F) := (HF0.out.below ((Below.refl _ _).alloc (Nat.le_refl _) _)).more (by simp)
            replace HL0 : Hid (RowOf 3 Deed.cell (wc28.alloc (.cells #[.slice none 0 0] 24)).heap.size (wc28.alloc (.cells #[.slice none 0 0] 24)) (.slice la l.length lcap) l) := (HL0.out.below ((Below.refl _ _).alloc (Nat.le_refl _) _)).more (by simp)
            replace HA : Hid (IsFl (wc28.alloc (.cells #[.slice none 0 0] 24)).heap.size (wc28.alloc (.cells #[.slice none 0 0] 24)) (.slice a1 A.length c1) A) := (HA.out.below ((Below.refl _ _).alloc (Nat.le_refl _) _)).more (by simp)
            replace H9 : Hid (CellsAt (wc28.alloc (.cells #[.slice none 0 0] 24)) (wc22.heap.size) 24 #[.slice a1 A.length c1]) := H9.out.kept (World.grownBy_alloc _ _ none) (by simp)
            replace H11 : Hid (CellsAt (wc28.alloc (.cells #[.slice none 0 0] 24)) (B11) 24 #[.slice a11 X.length c11]) := H11.out.kept (World.grownBy_alloc _ _ none) (by simp)
            replace HX : Hid (IsFl (wc28.alloc (.cells #[.slice none 0 0] 24)).heap.size (wc28.alloc (.cells #[.slice none 0 0] 24)) (.slice a11 X.length c11) X) := (HX.out.below ((Below.refl _ _).alloc (Nat.le_refl _) _)).more (by simp)
            replace HQ : Hid (IsFl (wc28.alloc (.cells #[.slice none 0 0] 24)).heap.size (wc28.alloc (.cells #[.slice none 0 0] 24)) (.slice aq A.length cq) A) := (HQ.out.below ((Below.refl _ _).alloc (Nat.le_refl _) _)).more (by simp)
            have HN : Hid (CellsAt (wc28.alloc (.cells #[.slice none 0 0] 24)) (wc28.heap.size) 24 #[.slice none 0 0]) := CellsAt.new _ _ _
            refine hK.out _ _ H11.out (fun _ => ?_)
            clear hK K
            generalize (wc28.alloc (.cells #[.slice none 0 0] 24)) = wq at *
            refine wpL_step (i := 9) rfl (by kernel_rfl) (fun K hK => ?_)
            have pq0 := HN.out.cell 0
            have pq1 := HN.out.frozen 0
            simp at pq0
            go_simp
            clear pq0 pq1
            have gs := grown_set wq (wc28.heap.size) 0 (.slice aq A.length cq)
            have zc := HN.out.set 0 (.slice aq A.length cq)
            simp only [List.setIfInBounds_toArray, List.set_cons_zero] at zc
            have hb9 := HB0.out.setCell (p := ⟨wc28.heap.size, 0, none⟩) (by simp; omega) (.slice aq A.length cq)
            have n_HB0 : Hid (Below w.heap.size w (wq.setCell ⟨wc28.heap.size, 0, none⟩ (.slice aq A.length cq))) := hb9
            have n_Hf : Hid (CellsAt (wq.setCell ⟨wc28.heap.size, 0, none⟩ (.slice aq A.length cq)) (w.heap.size) 24 #[.slice ad nF cap]) := Hf.out.kept gs (by intro e; injection e with e; omega)
            have n_HF0 : Hid (IsFl (wq.setCell ⟨wc28.heap.size, 0, none⟩ (.slice aq A.length cq)).heap.size (wq.setCell ⟨wc28.heap.size, 0, none⟩ (.slice aq A.length cq)) (.slice ad nF cap) F) := (HFO.out.below hb9).more hb9.size
            have n_HL0 : Hid (RowOf 3 Deed.cell (wq.setCell ⟨wc28.heap.size, 0, none⟩ (.slice aq A.length cq)).heap.size (wq.setCell ⟨wc28.heap.size, 0, none⟩ (.slice aq A.length cq)) (.slice la l.length lcap) l) := (HLO.out.below hb9).more hb9.size
            have n_HA : Hid (IsFl (wq.setCell ⟨wc28.heap.size, 0, none⟩ (.slice aq A.length cq)).heap.size (wq.setCell ⟨wc28.heap.size, 0, none⟩ (.slice aq A.length cq)) (.slice a1 A.length c1) A) := (HA.out.stored HN.out (fun s h => by cases h) _).more (by simp [World.setCell])
            have n_H9 : Hid (CellsAt (wq.setCell ⟨wc28.heap.size, 0, none⟩ (.slice aq A.length cq)) (wc22.heap.size) 24 #[.slice a1 A.length c1]) := H9.out.kept gs (by intro e; injection e with e; omega)
            have n_H11 : Hid (CellsAt (wq.setCell ⟨wc28.heap.size, 0, none⟩ (.slice aq A.length cq)) (B11) 24 #[.slice a11 X.length c11]) := H11.out.kept gs (by intro e; injection e with e; omega)
            have n_HX : Hid (IsFl (wq.setCell ⟨wc28.heap.size, 0, none⟩ (.slice aq A.length cq)).heap.size (wq.setCell ⟨wc28.heap.size, 0, none⟩ (.slice aq A.length cq)) (.slice a11 X.length c11) X) := (HX.out.stored HN.out (fun s h => by cases h) _).more (by simp [World.setCell])
            have n_HQ : Hid (IsFl (wq.setCell ⟨wc28.heap.size, 0, none⟩ (.slice aq A.length cq)).heap.size (wq.setCell ⟨wc28.heap.size, 0, none⟩ (.slice aq A.length cq)) (.slice aq A.length cq) A) := (HQ.out.stored HN.out (fun s h => by cases h) _).more (by simp [World.setCell])
            have n_HN : Hid (CellsAt (wq.setCell ⟨wc28.heap.size, 0, none⟩ (.slice aq A.length cq)) (wc28.heap.size) 24 #[.slice aq A.length cq]) := zc
            clear gs zc hb9 HB0 Hf HF0 HL0 HA H9 H11 HX HQ HN
            have HB0 := n_HB0
            clear n_HB0
            have Hf := n_Hf
            clear n_Hf
            have HF0 := n_HF0
            clear n_HF0
            have HL0 := n_HL0
            clear n_HL0
            have HA := n_HA
            clear n_HA
            have H9 := n_H9
            clear n_H9
            have H11 := n_H11
            clear n_H11
            have HX := n_HX
            clear n_HX
            have HQ := n_HQ
            clear n_HQ
            have HN := n_HN
            clear n_HN
            refine hK.out _ _ H11.out (fun _ => ?_)
            clear hK K
            refine wpL_last (x := 10) rfl (by kernel_rfl) (by kernel_rfl) (fun K hK => ?_)
            go_simp
            refine hK.out _ _ ?_
            refine NoPanic.normal ?_
            clear hK K
            go_wp2_with fail
            go_meet
            exact ⟨⟨_, _, rfl, rfl, HN, HQ⟩, HB0, Hf, HF0, HL0, HA, H9, H11, HX⟩
          · skip
            go_simp
            have LTHf := Hf.out.lt
            have LTH9 := H9.out.lt
            have LTH11 := H11.out.lt
            replace HB0 : Hid (Below w.heap.size w (wd.alloc (.cells #[.slice none 0 0] 24))) := HB0.out.alloc HB0.out.size _
            replace Hf : Hid (CellsAt (wd.alloc (.cells #[.slice none 0 0] 24)) (w.heap.size) 24 #[.slice ad nF cap]) := Hf.out.kept (World.grownBy_alloc _ _ none) (by simp)
            replace HF0 : Hid (IsFl (wd.alloc (.cells #[.slice none 0 0] 24)).heap.size (wd.alloc (.cells #[.slice none 0 0] 24)) (.slice ad nF cap) F) := (HF0.out.below ((Below.refl _ _).alloc (Nat.le_refl _) _)).more (by simp)
            replace HL0 : Hid (RowOf 3 Deed.cell (wd.alloc (.cells #[.slice none 0 0] 24)).heap.size (wd.alloc (.cells #[.slice none 0 0] 24)) (.slice la l.length lcap) l) := (HL0.out.below ((Below.refl _ _).alloc (Nat.le_refl _) _)).more (by simp)
            replace HA : Hid (IsFl (wd.alloc (.cells #[.slice none 0 0] 24)).heap.size (wd.alloc (.cells #[.slice none 0 0] 24)) (.slice a1 A.length c1) A) := (HA.out.below ((Below.refl _ _).alloc (Nat.le_refl _) _)).more (by simp)
            replace H9 : Hid (CellsAt (wd.alloc (.cells #[.slice none 0 0] 24)) (wc22.heap.size) 24 #[.slice a1 A.length c1]) := H9.out.kept (World.grownBy_alloc _ _ none) (by simp)
            replace H11 : Hid (CellsAt (wd.alloc (.cells #[.slice none 0 0] 24)) (B11) 24 #[.slice a11 X.length c11]) := H11.out.kept (World.grownBy_alloc _ _ none) (by simp)
            replace HX : Hid (IsFl (wd.alloc (.cells #[.slice none 0 0] 24)).heap.size (wd.alloc (.cells #[.slice none 0 0] 24)) (.slice a11 X.length c11) X) := (HX.out.below ((Below.refl _ _).alloc (Nat.le_refl _) _)).more (by simp)
            have HN : Hid (CellsAt (wd.alloc (.cells #[.slice none 0 0] 24)) (wd.heap.size) 24 #[.slice none 0 0]) := CellsAt.new _ _ _
            refine hK.out _ _ H11.out (fun _ => ?_)
            clear hK K
            generalize (wd.alloc (.cells #[.slice none 0 0] 24)) = wq at *
            refine wpL_step (i := 4) rfl (by kernel_rfl) (fun K hK => ?_)
            go_simp
            refine (HD2.out _ _ _ HX.out (HR2.out _ _ HL0.out)).mono ?_
            rintro e wc31 ⟨⟨rq, rfl, hrq⟩, bb31⟩
            replace HB0 : Hid (Below w.heap.size w wc31) := HB0.out.trans (bb31.mono HB0.out.size)
            replace Hf : Hid (CellsAt wc31 (w.heap.size) 24 #[.slice ad nF cap]) := Hf.out.below bb31 Hf.out.lt
            replace HF0 : Hid (IsFl wc31.heap.size wc31 (.slice ad nF cap) F) := (HF0.out.below bb31).more bb31.size
            replace HL0 : Hid (RowOf 3 Deed.cell wc31.heap.size wc31 (.slice la l.length lcap) l) := (HL0.out.below bb31).more bb31.size
            replace HA : Hid (IsFl wc31.heap.size wc31 (.slice a1 A.length c1) A) := (HA.out.below bb31).more bb31.size
            replace H9 : Hid (CellsAt wc31 (wc22.heap.size) 24 #[.slice a1 A.length c1]) := H9.out.below bb31 H9.out.lt
            replace H11 : Hid (CellsAt wc31 (B11) 24 #[.slice a11 X.length c11]) := H11.out.below bb31 H11.out.lt
            replace HX : Hid (IsFl wc31.heap.size wc31 (.slice a11 X.length c11) X) := (HX.out.below bb31).more bb31.size
            replace HN : Hid (CellsAt wc31 (wd.heap.size) 24 #[.slice none 0 0]) := HN.out.below bb31 HN.out.lt
            clear bb31
            obtain ⟨⟨aq, cq, rfl, _, _⟩, _⟩ := id hrq
            have HQ : Hid (IsFl wc31.heap.size wc31 (.slice aq A.length cq) A) := hrq
            clear hrq
            go_simp
            refine hK.out _ _ H11.out (fun _ => ?_)
            clear hK K
            refine wpL_take 5 53 (.tuple #[.agg #[.slice aq A.length cq], .int .i64 0]) rfl (by kernel_rfl) (fun _ _ _ h => h) (show _ from H11.out) rfl rfl (fun w' hSw => by clear hSw; go_simp) ?_
            simp only [List.setIfInBounds_toArray, List.set_cons_zero, List.set_cons_succ]
            refine wpL_take 6 59 (.agg #[.slice aq A.length cq]) rfl (by kernel_rfl) (fun _ _ _ h => h) (show _ from H11.out) rfl rfl (fun w' hSw => by clear hSw; go_simp) ?_
            simp only [List.setIfInBounds_toArray, List.set_cons_zero, List.set_cons_succ]
            refine wpL_take 7 60 (.int .i64 0) rfl (by kernel_rfl) (fun _ _ _ h => h) (show _ from H11.out) rfl rfl (fun w' hSw => by clear hSw; go_simp) ?_
            simp only [List.setIfInBounds_toArray, List.set_cons_zero, List.set_cons_succ]
            refine wpL_step (i := 9) rfl (by kernel_rfl) (fun K hK => ?_)
            have pq0 := HN.out.cell 0
            have pq1 := HN.out.frozen 0
            simp at pq0
            go_simp
            clear pq0 pq1
            have gs := grown_set wc31 (wd.heap.size) 0 (.slice aq A.length cq)
            have zc := HN.out.set 0 (.slice aq A.length cq)
            simp only [List.setIfInBounds_toArray, List.set_cons_zero] at zc
            have hb9 := HB0.out.setCell (p := ⟨wd.heap.size, 0, none⟩) (by simp; omega) (.slice aq A.length cq)
            have n_HB0 : Hid (Below w.heap.size w (wc31.setCell ⟨wd.heap.size, 0, none⟩ (.slice aq A.length cq))) := hb9
            have n_Hf : Hid (CellsAt (wc31.setCell ⟨wd.heap.size, 0, none⟩ (.slice aq A.length cq)) (w.heap.size) 24 #[.slice ad nF cap]) := Hf.out.kept gs (by intro e; injection e with e; omega)
            have n_HF0 : Hid (IsFl (wc31.setCell ⟨wd.heap.size, 0, none⟩ (.slice aq A.length cq)).heap.size (wc31.setCell ⟨wd.heap.size, 0, none⟩ (.slice aq A.length cq)) (.slice ad nF cap) F) := (HFO.out.below hb9).more hb9.size
            have n_HL0 : Hid (RowOf 3 Deed.cell (wc31.setCell ⟨wd.heap.size, 0, none⟩ (.slice aq A.length cq)).heap.size (wc31.setCell ⟨wd.heap.size, 0, none⟩ (.slice aq A.length cq)) (.slice la l.length lcap) l) := (HLO.out.below hb9).more hb9.size
            have n_HA : Hid (IsFl (wc31.setCell ⟨wd.heap.size, 0, none⟩ (.slice aq A.length cq)).heap.size (wc31.setCell ⟨wd.heap.size, 0, none⟩ (.slice aq A.length cq)) (.slice a1 A.length c1) A) := (HA.out.stored HN.out (fun s h => by cases h) _).more (by simp [World.setCell])
            have n_H9 : Hid (CellsAt (wc31.setCell ⟨wd.heap.size, 0, none⟩ (.slice aq A.length cq)) (wc22.heap.size) 24 #[.slice a1 A.length c1]) := H9.out.kept gs (by intro e; injection e with e; omega)
            have n_H11 : Hid (CellsAt (wc31.setCell ⟨wd.heap.size, 0, none⟩ (.slice aq A.length cq)) (B11) 24 #[.slice a11 X.length c11]) := H11.out.kept gs (by intro e; injection e with e; omega)
            have n_HX : Hid (IsFl (wc31.setCell ⟨wd.heap.size, 0, none⟩ (.slice aq A.length cq)).heap.size (wc31.setCell ⟨wd.heap.size, 0, none⟩ (.slice aq A.length cq)) (.slice a11 X.length c11) X) := (HX.out.stored HN.out (fun s h => by cases h) _).more (by simp [World.setCell])
            have n_HQ : Hid (IsFl (wc31.setCell ⟨wd.heap.size, 0, none⟩ (.slice aq A.length cq)).heap.size (wc31.setCell ⟨wd.heap.size, 0, none⟩ (.slice aq A.length cq)) (.slice aq A.length cq) A) := (HQ.out.stored HN.out (fun s h => by cases h) _).more (by simp [World.setCell])
            have n_HN : Hid (CellsAt (wc31.setCell ⟨wd.heap.size, 0, none⟩ (.slice aq A.length cq)) (wd.heap.size) 24 #[.slice aq A.length cq]) := zc
            clear gs zc hb9 HB0 Hf HF0 HL0 HA H9 H11 HX HN HQ
            have HB0 := n_HB0
            clear n_HB0
            have Hf := n_Hf
            clear n_Hf
            have HF0 := n_HF0
            clear n_HF0
            have HL0 := n_HL0
            clear n_HL0
            have HA := n_HA
            clear n_HA
            have H9 := n_H9
            clear n_H9
            have H11 := n_H11
            clear n_H11
            have HX := n_HX
            clear n_HX
            have HN := n_HN
            clear n_HN
            have HQ := n_HQ
            clear n_HQ
            refine hK.out _ _ H11.out (fun _ => ?_)
            clear hK K
            refine wpL_last (x := 10) rfl (by kernel_rfl) (by kernel_rfl) (fun K hK => ?_)
            go_simp
            refine hK.out _ _ ?_
            refine NoPanic.normal ?_
            clear hK K
            go_wp2_with fail
            go_meet
            exact ⟨⟨_, _, rfl, rfl, HN, HQ⟩, HB0, Hf, HF0, HL0, HA, H9, H11, HX⟩
        case rest =>
        obtain ⟨⟨B13, v13, rfl, rfl, H13, HY⟩, HB0, Hf, HF0, HL0, HA, H9, H11, HX⟩ := hcut
        obtain ⟨w32, hw32⟩ : ∃ x, x = wc := ⟨_, rfl⟩
        subst hw32
        obtain ⟨⟨a13, c13, rfl, _, _⟩, _⟩ := id HY.out
        have pl_H9_0 := H9.out.cell 0
        simp at pl_H9_0
        have pl_H9_lt := H9.out.lt
        have pl_H13_0 := H13.out.cell 0
        simp at pl_H13_0
        have pl_H13_lt := H13.out.lt
        go_wp2_with fail
        clear pl_H9_0 pl_H9_lt pl_H13_0 pl_H13_lt
        refine (HSF.out A _ _ _ HY.out HA.out).mono ?_
        rintro e wc32 ⟨rfl, bb32⟩
        replace HB0 : Hid (Below w.heap.size w wc32) := HB0.out.trans (bb32.mono HB0.out.size)
        replace Hf : Hid (CellsAt wc32 (w.heap.size) 24 #[.slice ad nF cap]) := Hf.out.below bb32 Hf.out.lt
        replace HF0 : Hid (IsFl wc32.heap.size wc32 (.slice ad nF cap) F) := (HF0.out.below bb32).more bb32.size
        replace HL0 : Hid (RowOf 3 Deed.cell wc32.heap.size wc32 (.slice la l.length lcap) l) := (HL0.out.below bb32).more bb32.size
        replace HA : Hid (IsFl wc32.heap.size wc32 (.slice a1 A.length c1) A) := (HA.out.below bb32).more bb32.size
        replace H9 : Hid (CellsAt wc32 (wc22.heap.size) 24 #[.slice a1 A.length c1]) := H9.out.below bb32 H9.out.lt
        replace H11 : Hid (CellsAt wc32 (B11) 24 #[.slice a11 X.length c11]) := H11.out.below bb32 H11.out.lt
        replace HX : Hid (IsFl wc32.heap.size wc32 (.slice a11 X.length c11) X) := (HX.out.below bb32).more bb32.size
        replace H13 : Hid (CellsAt wc32 (B13) 24 #[.slice a13 A.length c13]) := H13.out.below bb32 H13.out.lt
        replace HY : Hid (IsFl wc32.heap.size wc32 (.slice a13 A.length c13) A) := (HY.out.below bb32).more bb32.size
        clear bb32
        go_wp2_with fail
        go_meet
        exact ⟨HB0, Hf, HF0, HL0, HA, H9⟩
    case rest =>
    obtain ⟨HB0, Hf, HF0, HL0, HA, H9⟩ := hcut
    obtain ⟨w33, hw33⟩ : ∃ x, x = wc := ⟨_, rfl⟩
    subst hw33
    clear HBQ HPT
    go_wp2_with fail
    go_loopg [15] l.length (fun gk i wr => ∃ (j : Nat), Hid (gk = l.length - j) ∧ j ≤ l.length ∧ i = .int .i64 j ∧ Hid (Below w.heap.size w wr) ∧ Hid (CellsAt wr (w.heap.size) 24 #[.slice ad nF cap]) ∧ Hid (IsFl wr.heap.size wr (.slice ad nF cap) F) ∧ Hid (RowOf 3 Deed.cell wr.heap.size wr (.slice la l.length lcap) l) ∧ Hid (IsFl wr.heap.size wr (.slice a1 A.length c1) A) ∧ Hid (CellsAt wr (wc22.heap.size) 24 #[.slice a1 A.length c1]))
    case atStart => exact ⟨0, (by simp : l.length = l.length - 0), Nat.zero_le _, rfl, HB0, Hf, HF0, HL0, HA, H9⟩
    case round =>
      obtain ⟨j, HGK, hj, rfl, qHB0, qHf, qHF0, qHL0, qHA, qH9⟩ := hrel
      clear HB0 Hf HF0 HL0 HA H9
      have HB0 := qHB0
      clear qHB0
      have Hf := qHf
      clear qHf
      have HF0 := qHF0
      clear qHF0
      have HL0 := qHL0
      clear qHL0
      have HA := qHA
      clear qHA
      have H9 := qH9
      clear qH9
      obtain ⟨wl, hwl⟩ : ∃ x, x = wr := ⟨_, rfl⟩
      subst hwl
      by_cases hlt : j < l.length
      · rcases HLR.out with h | ⟨bl, offl, rfl, hbl, hcl2⟩
        · rw [h] at hlt; exact absurd hlt (Nat.not_lt_zero _)
        obtain ⟨d, hd⟩ : ∃ d, l[j]? = some d := ⟨_, List.getElem?_eq_getElem hlt⟩
        have HDC : Hid (∀ W, Below w.heap.size w W → W.cell? ⟨bl, offl + j * 3, none⟩ = some (.int .i64 d.kind) ∧ W.cell? ⟨bl, offl + j * 3 + 1, none⟩ = some (.int .i64 d.pos) ∧ W.cell? ⟨bl, offl + j * 3 + 2, none⟩ = some (.int .i64 d.val)) := fun W hB =>
          ⟨(hB.cell (p := ⟨bl, offl + j * 3, none⟩) hbl).trans (hcl2 j d hd 0 (by omega)), (hB.cell (p := ⟨bl, offl + j * 3 + 1, none⟩) hbl).trans (hcl2 j d hd 1 (by omega)), (hB.cell (p := ⟨bl, offl + j * 3 + 2, none⟩) hbl).trans (hcl2 j d hd 2 (by omega))⟩
        have h1d := HON.out d (List.mem_of_getElem? hd)
        obtain ⟨h2d, h3d, -⟩ := twice h1d
        have HROW : Hid (∀ (W : World) n, n = W.heap.size → RowOf 3 Deed.cell (W.alloc (.cells #[.int .i64 d.kind, .int .i64 d.pos, .int .i64 d.val] 32)).heap.size (W.alloc (.cells #[.int .i64 d.kind, .int .i64 d.pos, .int .i64 d.val] 32)) (.slice (some ⟨n, 0, none⟩) 1 1) [d]) := fun W n hn => by
          subst hn
          exact rowOf_cells (C := deedC) (cells := Deed.cell) (sz := 3) (fun _ => rfl) deedC_at (CellsAt.new W 32 (deedC d).toArray) [d] (show 1 ≤ 255 by decide) 1 rfl
        have HD3 : Hid (∀ v vl W, IsFl W.heap.size W v A → RowOf 3 Deed.cell W.heap.size W vl [d] → Calls Try.prog 8 #[.agg #[v], vl] W fun e w' => (∃ r, e = .returned (.tuple #[.agg #[r], .int .i64 0]) ∧ IsFl w'.heap.size w' r (doneB A d)) ∧ Below W.heap.size W w') := fun v vl W q1 q2 => by
          have := HDO.out A [d] v vl W q1 q2
          rw [doRes_one h1d, h1d] at this
          exact this
        have HD4 : Hid (∀ v vl W, IsFl W.heap.size W v (doneB A d) → RowOf 3 Deed.cell W.heap.size W vl [d] → Calls Try.prog 8 #[.agg #[v], vl] W fun e w' => (∃ r, e = .returned (.tuple #[.agg #[r], .int .i64 0]) ∧ IsFl w'.heap.size w' r (doneB A d)) ∧ Below W.heap.size W w') := fun v vl W q1 q2 => by
          have := HDO.out (doneB A d) [d] v vl W q1 q2
          rw [doRes_one h2d, h3d, h2d] at this
          exact this
        clear h1d h2d h3d hd hcl2
        generalize doneB A d = X at *
        obtain ⟨kd, ps, dv⟩ := d
        dsimp only at *
        generalize [(⟨kd, ps, dv⟩ : Deed)] = dl at *
        go_upto_region 14 with fail
        go_cut [16, 17] from 73 to 110 (fun s16 s17 wx => (∃ (Bn : Nat) (vn : Value), s16 = .pointer (some ⟨Bn, 0, none⟩) ∧ s17 = .int .i64 0 ∧ Hid (CellsAt wx Bn 24 #[vn]) ∧ Hid (IsFl wx.heap.size wx vn X)) ∧ Hid (Below w.heap.size w wx) ∧ Hid (CellsAt wx (w.heap.size) 24 #[.slice ad nF cap]) ∧ Hid (IsFl wx.heap.size wx (.slice ad nF cap) F) ∧ Hid (RowOf 3 Deed.cell wx.heap.size wx (.slice (some ⟨bl, offl, none⟩) l.length lcap) l) ∧ Hid (IsFl wx.heap.size wx (.slice a1 A.length c1) A) ∧ Hid (CellsAt wx (wc22.heap.size) 24 #[.slice a1 A.length c1]))
        case first =>
          replace HB0 : Hid (Below w.heap.size w wl.drew) := HB0.out.drew
          replace Hf : Hid (CellsAt wl.drew (w.heap.size) 24 #[.slice ad nF cap]) := (Hf.out : _)
          replace HF0 : Hid (IsFl wl.drew.heap.size wl.drew (.slice ad nF cap) F) := (HF0.out : _)
          replace HL0 : Hid (RowOf 3 Deed.cell wl.drew.heap.size wl.drew (.slice (some ⟨bl, offl, none⟩) l.length lcap) l) := (HL0.out : _)
          replace HA : Hid (IsFl wl.drew.heap.size wl.drew (.slice a1 A.length c1) A) := (HA.out : _)
          replace H9 : Hid (CellsAt wl.drew (wc22.heap.size) 24 #[.slice a1 A.length c1]) := (H9.out : _)
          refine wp_region_noPanic ?_
          refine wp_region_L (S := fun w' => CellsAt w' (wc22.heap.size) 24 #[.slice a1 A.length c1] ∧ w'.cell? ⟨bl, offl + j * 3, none⟩ = some (.int .i64 kd) ∧ w'.cell? ⟨bl, offl + j * 3 + 1, none⟩ = some (.int .i64 ps) ∧ w'.cell? ⟨bl, offl + j * 3 + 2, none⟩ = some (.int .i64 dv)) (x := 12) (by kernel_rfl) ?_
          generalize wl.drew = wd at *
          have hS0 : CellsAt wd (wc22.heap.size) 24 #[.slice a1 A.length c1] ∧ wd.cell? ⟨bl, offl + j * 3, none⟩ = some (.int .i64 kd) ∧ wd.cell? ⟨bl, offl + j * 3 + 1, none⟩ = some (.int .i64 ps) ∧ wd.cell? ⟨bl, offl + j * 3 + 2, none⟩ = some (.int .i64 dv) := ⟨H9.out, HDC.out _ HB0.out⟩
          refine wpL_take 0 80 (.agg #[.slice a1 A.length c1]) rfl (by kernel_rfl) (fun _ _ _ h => h) hS0 rfl rfl (fun w' hSw => by obtain ⟨q0, q1, q2, q3⟩ := hSw; have q4 := q0.cell 0; simp at q4; clear q0; go_simp) ?_
          simp only [List.setIfInBounds_toArray, List.set_cons_zero, List.set_cons_succ]
          refine wpL_take 1 81 (.slice (some ⟨bl, offl, none⟩) l.length lcap) rfl (by kernel_rfl) (fun _ _ _ h => h) hS0 rfl rfl (fun w' hSw => by clear hSw; go_simp) ?_
          simp only [List.setIfInBounds_toArray, List.set_cons_zero, List.set_cons_succ]
          refine wpL_take 2 82 (.int .i64 (j : Int)) rfl (by kernel_rfl) (fun _ _ _ h => h) hS0 rfl rfl (fun w' hSw => by clear hSw; go_simp) ?_
          simp only [List.setIfInBounds_toArray, List.set_cons_zero, List.set_cons_succ]
          refine wpL_take 3 83 (.pointer (some ⟨bl, offl + j * 3, none⟩)) rfl (by kernel_rfl) (fun _ _ _ h => h) hS0 rfl rfl (fun w' hSw => by clear hSw; go_simp) ?_
          simp only [List.setIfInBounds_toArray, List.set_cons_zero, List.set_cons_succ]
          refine wpL_take 4 84 (.agg #[.int .i64 kd, .int .i64 ps, .int .i64 dv]) rfl (by kernel_rfl) (fun _ _ _ h => h) hS0 rfl rfl (fun w' hSw => by obtain ⟨q0, q1, q2, q3⟩ := hSw; have q4 := q0.cell 0; simp at q4; clear q0; go_simp) ?_
          simp only [List.setIfInBounds_toArray, List.set_cons_zero, List.set_cons_succ]
          clear hS0
          refine wpL_two (i := 5) (j := 10) rfl rfl (by kernel_rfl) (fun K hK => ?_) (fun K hK => ?_)
          · skip
            go_simp
            replace HB0 : Hid (Below w.heap.size w (wd.alloc (.cells #[.int .i64 kd, .int .i64 ps, .int .i64 dv] 32))) := HB0.out.alloc HB0.out.size _
            replace Hf : Hid (CellsAt (wd.alloc (.cells #[.int .i64 kd, .int .i64 ps, .int .i64 dv] 32)) (w.heap.size) 24 #[.slice ad nF cap]) := Hf.out.kept (World.grownBy_alloc _ _ none) (by simp)
            replace HF0 : Hid (IsFl (wd.alloc (.cells #[.int .i64 kd, .int .i64 ps, .int .i64 dv] 32)).heap.size (wd.alloc (.cells #[.int .i64 kd, .int .i64 ps, .int .i64 dv] 32)) (.slice ad nF cap) F) := (HF0.out.below ((Below.refl _ _).alloc (Nat.le_refl _) _)).more (by simp)
            replace HL0 : Hid (RowOf 3 Deed.cell (wd.alloc (.cells #[.int .i64 kd, .int .i64 ps, .int .i64 dv] 32)).heap.size (wd.alloc (.cells #[.int .i64 kd, .int .i64 ps, .int .i64 dv] 32)) (.slice (some ⟨bl, offl, none⟩) l.length lcap) l) := (HL0.out.below ((Below.refl _ _).alloc (Nat.le_refl _) _)).more (by simp)
            replace HA : Hid (IsFl (wd.alloc (.cells #[.int .i64 kd, .int .i64 ps, .int .i64 dv] 32)).heap.size (wd.alloc (.cells #[.int .i64 kd, .int .i64 ps, .int .i64 dv] 32)) (.slice a1 A.length c1) A) := (HA.out.below ((Below.refl _ _).alloc (Nat.le_refl _) _)).more (by simp)
            replace H9 : Hid (CellsAt (wd.alloc (.cells #[.int .i64 kd, .int .i64 ps, .int .i64 dv] 32)) (wc22.heap.size) 24 #[.slice a1 A.length c1]) := H9.out.kept (World.grownBy_alloc _ _ none) (by simp)
            have HRw : Hid (RowOf 3 Deed.cell (wd.alloc (.cells #[.int .i64 kd, .int .i64 ps, .int .i64 dv] 32)).heap.size (wd.alloc (.cells #[.int .i64 kd, .int .i64 ps, .int .i64 dv] 32)) (.slice (some ⟨wd.heap.size, 0, none⟩) 1 1) dl) := HROW.out _ _ (by simp)
            refine hK.out _ _ ⟨H9.out, HDC.out _ HB0.out⟩ (fun _ => ?_)
            clear hK K
            generalize (wd.alloc (.cells #[.int .i64 kd, .int .i64 ps, .int .i64 dv] 32)) = wr1 at *
            refine wpL_two (i := 6) (j := 10) rfl rfl (by kernel_rfl) (fun K hK => ?_) (fun K hK => ?_)
            · skip
              go_simp
              refine (HD3.out _ _ _ HA.out HRw.out).mono ?_
              rintro e wc34 ⟨⟨rq, rfl, hrq⟩, bb34⟩
              replace HB0 : Hid (Below w.heap.size w wc34) := HB0.out.trans (bb34.mono HB0.out.size)
              replace Hf : Hid (CellsAt wc34 (w.heap.size) 24 #[.slice ad nF cap]) := Hf.out.below bb34 Hf.out.lt
              replace HF0 : Hid (IsFl wc34.heap.size wc34 (.slice ad nF cap) F) := (HF0.out.below bb34).more bb34.size
              replace HL0 : Hid (RowOf 3 Deed.cell wc34.heap.size wc34 (.slice (some ⟨bl, offl, none⟩) l.length lcap) l) := (HL0.out.below bb34).more bb34.size
              replace HA : Hid (IsFl wc34.heap.size wc34 (.slice a1 A.length c1) A) := (HA.out.below bb34).more bb34.size
              replace H9 : Hid (CellsAt wc34 (wc22.heap.size) 24 #[.slice a1 A.length c1]) := H9.out.below bb34 H9.out.lt
              replace HRw : Hid (RowOf 3 Deed.cell wc34.heap.size wc34 (.slice (some ⟨wd.heap.size, 0, none⟩) 1 1) dl) := (HRw.out.below bb34).more bb34.size
              clear bb34
              obtain ⟨⟨aq, cq, rfl, _, _⟩, _⟩ := id hrq
              have HQ : Hid (IsFl wc34.heap.size wc34 (.slice aq X.length cq) X) := hrq
              clear hrq
              go_simp
              refine hK.out _ _ ⟨H9.out, HDC.out _ HB0.out⟩ (fun _ => ?_)
              clear hK K
              refine wpL_take 7 79 (.tuple #[.agg #[.slice aq X.length cq], .int .i64 0]) rfl (by kernel_rfl) (fun _ _ _ h => h) (show _ from ⟨H9.out, HDC.out _ HB0.out⟩) rfl rfl (fun w' hSw => by clear hSw; go_simp) ?_
              simp only [List.setIfInBounds_toArray, List.set_cons_zero, List.set_cons_succ]
              refine wpL_take 8 87 (.agg #[.slice aq X.length cq]) rfl (by kernel_rfl) (fun _ _ _ h => h) (show _ from ⟨H9.out, HDC.out _ HB0.out⟩) rfl rfl (fun w' hSw => by clear hSw; go_simp) ?_
              simp only [List.setIfInBounds_toArray, List.set_cons_zero, List.set_cons_succ]
              refine wpL_take 9 88 (.int .i64 0) rfl (by kernel_rfl) (fun _ _ _ h => h) (show _ from ⟨H9.out, HDC.out _ HB0.out⟩) rfl rfl (fun w' hSw => by clear hSw; go_simp) ?_
              simp only [List.setIfInBounds_toArray, List.set_cons_zero, List.set_cons_succ]
              refine wpL_step (i := 10) rfl (by kernel_rfl) (fun K hK => ?_)
              go_simp
              have LTHf := Hf.out.lt
              have LTH9 := H9.out.lt
              replace HB0 : Hid (Below w.heap.size w (wc34.alloc (.cells #[.slice none 0 0] 24))) := HB0.out.alloc HB0.out.size _
              replace Hf : Hid (CellsAt (wc34.alloc (.cells #[.slice none 0 0] 24)) (w.heap.size) 24 #[.slice ad nF cap]) := Hf.out.kept (World.grownBy_alloc _ _ none) (by simp)
              replace HF0 : Hid (IsFl (wc34.alloc (.cells #[.slice none 0 0] 24)).heap.size (wc34.alloc (.cells #[.slice none 0 0] 24)) (.slice ad nF cap) F) := (HF0.out.below ((Below.refl _ _).alloc (Nat.le_refl _) _)).more (by simp)
              replace HL0 : Hid (RowOf 3 Deed.cell (wc34.alloc (.cells #[.slice none 0 0] 24)).heap.size (wc34.alloc (.cells #[.slice none 0 0] 24)) (.slice (some ⟨bl, offl, none⟩) l.length lcap) l) := (HL0.out.below ((Below.refl _ _).alloc (Nat.le_refl _) _)).more (by simp)
              replace HA : Hid (IsFl (wc34.alloc (.cells #[.slice none 0 0] 24)).heap.size (wc34.alloc (.cells #[.slice none 0 0] 24)) (.slice a1 A.length c1) A) := (HA.out.below ((Below.refl _ _).alloc (Nat.le_refl _) _)).more (by simp)
              replace H9 : Hid (CellsAt (wc34.alloc (.cells #[.slice none 0 0] 24)) (wc22.heap.size) 24 #[.slice a1 A.length c1]) := H9.out.kept (World.grownBy_alloc _ _ none) (by simp)
              replace HRw : Hid (RowOf 3 Deed.cell (wc34.alloc (.cells #[.slice none 0 0] 24)).heap.size (wc34.alloc (.cells #[.slice none 0 0] 24)) (.slice (some ⟨wd.heap.size, 0, none⟩) 1 1) dl) := (HRw.out.below ((Below.refl _ _).alloc (Nat.le_refl _) _)).more (by simp)
              replace HQ : Hid (IsFl (wc34.alloc (.cells #[.slice none 0 0] 24)).heap.size (wc34.alloc (.cells #[.slice none 0 0] 24)) (.slice aq X.length cq) X) := (HQ.out.below ((Below.refl _ _).alloc (Nat.le_refl _) _)).more (by simp)
              have HN : Hid (CellsAt (wc34.alloc (.cells #[.slice none 0 0] 24)) (wc34.heap.size) 24 #[.slice none 0 0]) := CellsAt.new _ _ _
              refine hK.out _ _ ⟨H9.out, HDC.out _ HB0.out⟩ (fun _ => ?_)
              clear hK K
              generalize (wc34.alloc (.cells #[.slice none 0 0] 24)) = wq at *
              refine wpL_step (i := 11) rfl (by kernel_rfl) (fun K hK => ?_)
              have pq0 := HN.out.cell 0
              have pq1 := HN.out.frozen 0
              simp at pq0
              go_simp
              clear pq0 pq1
              clear HRw
              have gs := grown_set wq (wc34.heap.size) 0 (.slice aq X.length cq)
              have zc := HN.out.set 0 (.slice aq X.length cq)
              simp only [List.setIfInBounds_toArray, List.set_cons_zero] at zc
              have hb9 := HB0.out.setCell (p := ⟨wc34.heap.size, 0, none⟩) (by simp; omega) (.slice aq X.length cq)
              have n_HB0 : Hid (Below w.heap.size w (wq.setCell ⟨wc34.heap.size, 0, none⟩ (.slice aq X.length cq))) := hb9
              have n_Hf : Hid (CellsAt (wq.setCell ⟨wc34.heap.size, 0, none⟩ (.slice aq X.length cq)) (w.heap.size) 24 #[.slice ad nF cap]) := Hf.out.kept gs (by intro e; injection e with e; omega)
              have n_HF0 : Hid (IsFl (wq.setCell ⟨wc34.heap.size, 0, none⟩ (.slice aq X.length cq)).heap.size (wq.setCell ⟨wc34.heap.size, 0, none⟩ (.slice aq X.length cq)) (.slice ad nF cap) F) := (HFO.out.below hb9).more hb9.size
              have n_HL0 : Hid (RowOf 3 Deed.cell (wq.setCell ⟨wc34.heap.size, 0, none⟩ (.slice aq X.length cq)).heap.size (wq.setCell ⟨wc34.heap.size, 0, none⟩ (.slice aq X.length cq)) (.slice (some ⟨bl, offl, none⟩) l.length lcap) l) := (HLO.out.below hb9).more hb9.size
              have n_HA : Hid (IsFl (wq.setCell ⟨wc34.heap.size, 0, none⟩ (.slice aq X.length cq)).heap.size (wq.setCell ⟨wc34.heap.size, 0, none⟩ (.slice aq X.length cq)) (.slice a1 A.length c1) A) := (HA.out.stored HN.out (fun s h => by cases h) _).more (by simp [World.setCell])
              have n_H9 : Hid (CellsAt (wq.setCell ⟨wc34.heap.size, 0, none⟩ (.slice aq X.length cq)) (wc22.heap.size) 24 #[.slice a1 A.length c1]) := H9.out.kept gs (by intro e; injection e with e; omega)
              have n_HQ : Hid (IsFl (wq.setCell ⟨wc34.heap.size, 0, none⟩ (.slice aq X.length cq)).heap.size (wq.setCell ⟨wc34.heap.size, 0, none⟩ (.slice aq X.length cq)) (.slice aq X.length cq) X) := (HQ.out.stored HN.out (fun s h => by cases h) _).more (by simp [World.setCell])
              have n_HN : Hid (CellsAt (wq.setCell ⟨wc34.heap.size, 0, none⟩ (.slice aq X.length cq)) (wc34.heap.size) 24 #[.slice aq X.length cq]) := zc
              clear gs zc hb9 HB0 Hf HF0 HL0 HA H9 HQ HN
              have HB0 := n_HB0
              clear n_HB0
              have Hf := n_Hf
              clear n_Hf
              have HF0 := n_HF0
              clear n_HF0
              have HL0 := n_HL0
              clear n_HL0
              have HA := n_HA
              clear n_HA
              have H9 := n_H9
              clear n_H9
              have HQ := n_HQ
              clear n_HQ
              have HN := n_HN
              clear n_HN
              refine hK.out _ _ ⟨H9.out, HDC.out _ HB0.out⟩ (fun _ => ?_)
              clear hK K
              refine wpL_last (x := 12) rfl (by kernel_rfl) (by kernel_rfl) (fun K hK => ?_)
              go_simp
              refine hK.out _ _ ?_
              refine NoPanic.normal ?_
              clear hK K
              go_wp2_with fail
              go_meet
              exact ⟨⟨_, _, rfl, rfl, HN, HQ⟩, HB0, Hf, HF0, HL0, HA, H9⟩
            · skip
              go_simp
              have LTHf := Hf.out.lt
              have LTH9 := H9.out.lt
              replace HB0 : Hid (Below w.heap.size w (wr1.alloc (.cells #[.slice none 0 0] 24))) := HB0.out.alloc HB0.out.size _
              replace Hf : Hid (CellsAt (wr1.alloc (.cells #[.slice none 0 0] 24)) (w.heap.size) 24 #[.slice ad nF cap]) := Hf.out.kept (World.grownBy_alloc _ _ none) (by simp)
              replace HF0 : Hid (IsFl (wr1.alloc (.cells #[.slice none 0 0] 24)).heap.size (wr1.alloc (.cells #[.slice none 0 0] 24)) (.slice ad nF cap) F) := (HF0.out.below ((Below.refl _ _).alloc (Nat.le_refl _) _)).more (by simp)
              replace HL0 : Hid (RowOf 3 Deed.cell (wr1.alloc (.cells #[.slice none 0 0] 24)).heap.size (wr1.alloc (.cells #[.slice none 0 0] 24)) (.slice (some ⟨bl, offl, none⟩) l.length lcap) l) := (HL0.out.below ((Below.refl _ _).alloc (Nat.le_refl _) _)).more (by simp)
              replace HA : Hid (IsFl (wr1.alloc (.cells #[.slice none 0 0] 24)).heap.size (wr1.alloc (.cells #[.slice none 0 0] 24)) (.slice a1 A.length c1) A) := (HA.out.below ((Below.refl _ _).alloc (Nat.le_refl _) _)).more (by simp)
              replace H9 : Hid (CellsAt (wr1.alloc (.cells #[.slice none 0 0] 24)) (wc22.heap.size) 24 #[.slice a1 A.length c1]) := H9.out.kept (World.grownBy_alloc _ _ none) (by simp)
              replace HRw : Hid (RowOf 3 Deed.cell (wr1.alloc (.cells #[.slice none 0 0] 24)).heap.size (wr1.alloc (.cells #[.slice none 0 0] 24)) (.slice (some ⟨wd.heap.size, 0, none⟩) 1 1) dl) := (HRw.out.below ((Below.refl _ _).alloc (Nat.le_refl _) _)).more (by simp)
              have HN : Hid (CellsAt (wr1.alloc (.cells #[.slice none 0 0] 24)) (wr1.heap.size) 24 #[.slice none 0 0]) := CellsAt.new _ _ _
              refine hK.out _ _ ⟨H9.out, HDC.out _ HB0.out⟩ (fun _ => ?_)
              clear hK K
              generalize (wr1.alloc (.cells #[.slice none 0 0] 24)) = wq at *
              refine wpL_step (i := 6) rfl (by kernel_rfl) (fun K hK => ?_)
              go_simp
              refine (HD3.out _ _ _ HA.out HRw.out).mono ?_
              rintro e wc37 ⟨⟨rq, rfl, hrq⟩, bb37⟩
              replace HB0 : Hid (Below w.heap.size w wc37) := HB0.out.trans (bb37.mono HB0.out.size)
              replace Hf : Hid (CellsAt wc37 (w.heap.size) 24 #[.slice ad nF cap]) := Hf.out.below bb37 Hf.out.lt
              replace HF0 : Hid (IsFl wc37.heap.size wc37 (.slice ad nF cap) F) := (HF0.out.below bb37).more bb37.size
              replace HL0 : Hid (RowOf 3 Deed.cell wc37.heap.size wc37 (.slice (some ⟨bl, offl, none⟩) l.length lcap) l) := (HL0.out.below bb37).more bb37.size
              replace HA : Hid (IsFl wc37.heap.size wc37 (.slice a1 A.length c1) A) := (HA.out.below bb37).more bb37.size
              replace H9 : Hid (CellsAt wc37 (wc22.heap.size) 24 #[.slice a1 A.length c1]) := H9.out.below bb37 H9.out.lt
              replace HRw : Hid (RowOf 3 Deed.cell wc37.heap.size wc37 (.slice (some ⟨wd.heap.size, 0, none⟩) 1 1) dl) := (HRw.out.below bb37).more bb37.size
              replace HN : Hid (CellsAt wc37 (wr1.heap.size) 24 #[.slice none 0 0]) := HN.out.below bb37 HN.out.lt
              clear bb37
              obtain ⟨⟨aq, cq, rfl, _, _⟩, _⟩ := id hrq
              have HQ : Hid (IsFl wc37.heap.size wc37 (.slice aq X.length cq) X) := hrq
              clear hrq
              go_simp
              refine hK.out _ _ ⟨H9.out, HDC.out _ HB0.out⟩ (fun _ => ?_)
              clear hK K
              refine wpL_take 7 79 (.tuple #[.agg #[.slice aq X.length cq], .int .i64 0]) rfl (by kernel_rfl) (fun _ _ _ h => h) (show _ from ⟨H9.out, HDC.out _ HB0.out⟩) rfl rfl (fun w' hSw => by clear hSw; go_simp) ?_
              simp only [List.setIfInBounds_toArray, List.set_cons_zero, List.set_cons_succ]
              refine wpL_take 8 87 (.agg #[.slice aq X.length cq]) rfl (by kernel_rfl) (fun _ _ _ h => h) (show _ from ⟨H9.out, HDC.out _ HB0.out⟩) rfl rfl (fun w' hSw => by clear hSw; go_simp) ?_
              simp only [List.setIfInBounds_toArray, List.set_cons_zero, List.set_cons_succ]
              refine wpL_take 9 88 (.int .i64 0) rfl (by kernel_rfl) (fun _ _ _ h => h) (show _ from ⟨H9.out, HDC.out _ HB0.out⟩) rfl rfl (fun w' hSw => by clear hSw; go_simp) ?_
              simp only [List.setIfInBounds_toArray, List.set_cons_zero, List.set_cons_succ]
              refine wpL_step (i := 11) rfl (by kernel_rfl) (fun K hK => ?_)
              have pq0 := HN.out.cell 0
              have pq1 := HN.out.frozen 0
              simp at pq0
              go_simp
              clear pq0 pq1
              clear HRw
              have gs := grown_set wc37 (wr1.heap.size) 0 (.slice aq X.length cq)
              have zc := HN.out.set 0 (.slice aq X.length cq)
              simp only [List.setIfInBounds_toArray, List.set_cons_zero] at zc
              have hb9 := HB0.out.setCell (p := ⟨wr1.heap.size, 0, none⟩) (by simp; omega) (.slice aq X.length cq)
              have n_HB0 : Hid (Below w.heap.size w (wc37.setCell ⟨wr1.heap.size, 0, none⟩ (.slice aq X.length cq))) := hb9
              have n_Hf : Hid (CellsAt (wc37.setCell ⟨wr1.heap.size, 0, none⟩ (.slice aq X.length cq)) (w.heap.size) 24 #[.slice ad nF cap]) := Hf.out.kept gs (by intro e; injection e with e; omega)
              have n_HF0 : Hid (IsFl (wc37.setCell ⟨wr1.heap.size, 0, none⟩ (.slice aq X.length cq)).heap.size (wc37.setCell ⟨wr1.heap.size, 0, none⟩ (.slice aq X.length cq)) (.slice ad nF cap) F) := (HFO.out.below hb9).more hb9.size
              have n_HL0 : Hid (RowOf 3 Deed.cell (wc37.setCell ⟨wr1.heap.size, 0, none⟩ (.slice aq X.length cq)).heap.size (wc37.setCell ⟨wr1.heap.size, 0, none⟩ (.slice aq X.length cq)) (.slice (some ⟨bl, offl, none⟩) l.length lcap) l) := (HLO.out.below hb9).more hb9.size
              have n_HA : Hid (IsFl (wc37.setCell ⟨wr1.heap.size, 0, none⟩ (.slice aq X.length cq)).heap.size (wc37.setCell ⟨wr1.heap.size, 0, none⟩ (.slice aq X.length cq)) (.slice a1 A.length c1) A) := (HA.out.stored HN.out (fun s h => by cases h) _).more (by simp [World.setCell])
              have n_H9 : Hid (CellsAt (wc37.setCell ⟨wr1.heap.size, 0, none⟩ (.slice aq X.length cq)) (wc22.heap.size) 24 #[.slice a1 A.length c1]) := H9.out.kept gs (by intro e; injection e with e; omega)
              have n_HQ : Hid (IsFl (wc37.setCell ⟨wr1.heap.size, 0, none⟩ (.slice aq X.length cq)).heap.size (wc37.setCell ⟨wr1.heap.size, 0, none⟩ (.slice aq X.length cq)) (.slice aq X.length cq) X) := (HQ.out.stored HN.out (fun s h => by cases h) _).more (by simp [World.setCell])
              have n_HN : Hid (CellsAt (wc37.setCell ⟨wr1.heap.size, 0, none⟩ (.slice aq X.length cq)) (wr1.heap.size) 24 #[.slice aq X.length cq]) := zc
              clear gs zc hb9 HB0 Hf HF0 HL0 HA H9 HN HQ
              have HB0 := n_HB0
              clear n_HB0
              have Hf := n_Hf
              clear n_Hf
              have HF0 := n_HF0
              clear n_HF0
              have HL0 := n_HL0
              clear n_HL0
              have HA := n_HA
              clear n_HA
              have H9 := n_H9
              clear n_H9
              have HN := n_HN
              clear n_HN
              have HQ := n_HQ
              clear n_HQ
              refine hK.out _ _ ⟨H9.out, HDC.out _ HB0.out⟩ (fun _ => ?_)
              clear hK K
              refine wpL_last (x := 12) rfl (by kernel_rfl) (by kernel_rfl) (fun K hK => ?_)
              go_simp
              refine hK.out _ _ ?_
              refine NoPanic.normal ?_
              clear hK K
              go_wp2_with fail
              go_meet
              exact ⟨⟨_, _, rfl, rfl, HN, HQ⟩, HB0, Hf, HF0, HL0, HA, H9⟩
          · skip
            go_simp
            have LTHf := Hf.out.lt
            have LTH9 := H9.out.lt
            replace HB0 : Hid (Below w.heap.size w (wd.alloc (.cells #[.slice none 0 0] 24))) := HB0.out.alloc HB0.out.size _
            replace Hf : Hid (CellsAt (wd.alloc (.cells #[.slice none 0 0] 24)) (w.heap.size) 24 #[.slice ad nF cap]) := Hf.out.kept (World.grownBy_alloc _ _ none) (by simp)
            replace HF0 : Hid (IsFl (wd.alloc (.cells #[.slice none 0 0] 24)).heap.size (wd.alloc (.cells #[.slice none 0 0] 24)) (.slice ad nF cap) F) := (HF0.out.below ((Below.refl _ _).alloc (Nat.le_refl _) _)).more (by simp)
            replace HL0 : Hid (RowOf 3 Deed.cell (wd.alloc (.cells #[.slice none 0 0] 24)).heap.size (wd.alloc (.cells #[.slice none 0 0] 24)) (.slice (some ⟨bl, offl, none⟩) l.length lcap) l) := (HL0.out.below ((Below.refl _ _).alloc (Nat.le_refl _) _)).more (by simp)
            replace HA : Hid (IsFl (wd.alloc (.cells #[.slice none 0 0] 24)).heap.size (wd.alloc (.cells #[.slice none 0 0] 24)) (.slice a1 A.length c1) A) := (HA.out.below ((Below.refl _ _).alloc (Nat.le_refl _) _)).more (by simp)
            replace H9 : Hid (CellsAt (wd.alloc (.cells #[.slice none 0 0] 24)) (wc22.heap.size) 24 #[.slice a1 A.length c1]) := H9.out.kept (World.grownBy_alloc _ _ none) (by simp)
            have HN : Hid (CellsAt (wd.alloc (.cells #[.slice none 0 0] 24)) (wd.heap.size) 24 #[.slice none 0 0]) := CellsAt.new _ _ _
            refine hK.out _ _ ⟨H9.out, HDC.out _ HB0.out⟩ (fun _ => ?_)
            clear hK K
            generalize (wd.alloc (.cells #[.slice none 0 0] 24)) = wq at *
            refine wpL_step (i := 5) rfl (by kernel_rfl) (fun K hK => ?_)
            go_simp
            replace HB0 : Hid (Below w.heap.size w (wq.alloc (.cells #[.int .i64 kd, .int .i64 ps, .int .i64 dv] 32))) := HB0.out.alloc HB0.out.size _
            replace Hf : Hid (CellsAt (wq.alloc (.cells #[.int .i64 kd, .int .i64 ps, .int .i64 dv] 32)) (w.heap.size) 24 #[.slice ad nF cap]) := Hf.out.kept (World.grownBy_alloc _ _ none) (by simp)
            replace HF0 : Hid (IsFl (wq.alloc (.cells #[.int .i64 kd, .int .i64 ps, .int .i64 dv] 32)).heap.size (wq.alloc (.cells #[.int .i64 kd, .int .i64 ps, .int .i64 dv] 32)) (.slice ad nF cap) F) := (HF0.out.below ((Below.refl _ _).alloc (Nat.le_refl _) _)).more (by simp)
            replace HL0 : Hid (RowOf 3 Deed.cell (wq.alloc (.cells #[.int .i64 kd, .int .i64 ps, .int .i64 dv] 32)).heap.size (wq.alloc (.cells #[.int .i64 kd, .int .i64 ps, .int .i64 dv] 32)) (.slice (some ⟨bl, offl, none⟩) l.length lcap) l) := (HL0.out.below ((Below.refl _ _).alloc (Nat.le_refl _) _)).more (by simp)
            replace HA : Hid (IsFl (wq.alloc (.cells #[.int .i64 kd, .int .i64 ps, .int .i64 dv] 32)).heap.size (wq.alloc (.cells #[.int .i64 kd, .int .i64 ps, .int .i64 dv] 32)) (.slice a1 A.length c1) A) := (HA.out.below ((Below.refl _ _).alloc (Nat.le_refl _) _)).more (by simp)
            replace H9 : Hid (CellsAt (wq.alloc (.cells #[.int .i64 kd, .int .i64 ps, .int .i64 dv] 32)) (wc22.heap.size) 24 #[.slice a1 A.length c1]) := H9.out.kept (World.grownBy_alloc _ _ none) (by simp)
            replace HN : Hid (CellsAt (wq.alloc (.cells #[.int .i64 kd, .int .i64 ps, .int .i64 dv] 32)) (wd.heap.size) 24 #[.slice none 0 0]) := HN.out.kept (World.grownBy_alloc _ _ none) (by simp)
            have HRw : Hid (RowOf 3 Deed.cell (wq.alloc (.cells #[.int .i64 kd, .int .i64 ps, .int .i64 dv] 32)).heap.size (wq.alloc (.cells #[.int .i64 kd, .int .i64 ps, .int .i64 dv] 32)) (.slice (some ⟨wq.heap.size, 0, none⟩) 1 1) dl) := HROW.out _ _ (by simp)
            refine hK.out _ _ ⟨H9.out, HDC.out _ HB0.out⟩ (fun _ => ?_)
            clear hK K
            generalize (wq.alloc (.cells #[.int .i64 kd, .int .i64 ps, .int .i64 dv] 32)) = wr1 at *
            refine wpL_step (i := 6) rfl (by kernel_rfl) (fun K hK => ?_)
            go_simp
            refine (HD3.out _ _ _ HA.out HRw.out).mono ?_
            rintro e wc40 ⟨⟨rq, rfl, hrq⟩, bb40⟩
            replace HB0 : Hid (Below w.heap.size w wc40) := HB0.out.trans (bb40.mono HB0.out.size)
            replace Hf : Hid (CellsAt wc40 (w.heap.size) 24 #[.slice ad nF cap]) := Hf.out.below bb40 Hf.out.lt
            replace HF0 : Hid (IsFl wc40.heap.size wc40 (.slice ad nF cap) F) := (HF0.out.below bb40).more bb40.size
            replace HL0 : Hid (RowOf 3 Deed.cell wc40.heap.size wc40 (.slice (some ⟨bl, offl, none⟩) l.length lcap) l) := (HL0.out.below bb40).more bb40.size
            replace HA : Hid (IsFl wc40.heap.size wc40 (.slice a1 A.length c1) A) := (HA.out.below bb40).more bb40.size
            replace H9 : Hid (CellsAt wc40 (wc22.heap.size) 24 #[.slice a1 A.length c1]) := H9.out.below bb40 H9.out.lt
            replace HN : Hid (CellsAt wc40 (wd.heap.size) 24 #[.slice none 0 0]) := HN.out.below bb40 HN.out.lt
            replace HRw : Hid (RowOf 3 Deed.cell wc40.heap.size wc40 (.slice (some ⟨wq.heap.size, 0, none⟩) 1 1) dl) := (HRw.out.below bb40).more bb40.size
            clear bb40
            obtain ⟨⟨aq, cq, rfl, _, _⟩, _⟩ := id hrq
            have HQ : Hid (IsFl wc40.heap.size wc40 (.slice aq X.length cq) X) := hrq
            clear hrq
            go_simp
            refine hK.out _ _ ⟨H9.out, HDC.out _ HB0.out⟩ (fun _ => ?_)
            clear hK K
            refine wpL_take 7 79 (.tuple #[.agg #[.slice aq X.length cq], .int .i64 0]) rfl (by kernel_rfl) (fun _ _ _ h => h) (show _ from ⟨H9.out, HDC.out _ HB0.out⟩) rfl rfl (fun w' hSw => by clear hSw; go_simp) ?_
            simp only [List.setIfInBounds_toArray, List.set_cons_zero, List.set_cons_succ]
            refine wpL_take 8 87 (.agg #[.slice aq X.length cq]) rfl (by kernel_rfl) (fun _ _ _ h => h) (show _ from ⟨H9.out, HDC.out _ HB0.out⟩) rfl rfl (fun w' hSw => by clear hSw; go_simp) ?_
            simp only [List.setIfInBounds_toArray, List.set_cons_zero, List.set_cons_succ]
            refine wpL_take 9 88 (.int .i64 0) rfl (by kernel_rfl) (fun _ _ _ h => h) (show _ from ⟨H9.out, HDC.out _ HB0.out⟩) rfl rfl (fun w' hSw => by clear hSw; go_simp) ?_
            simp only [List.setIfInBounds_toArray, List.set_cons_zero, List.set_cons_succ]
            refine wpL_step (i := 11) rfl (by kernel_rfl) (fun K hK => ?_)
            have pq0 := HN.out.cell 0
            have pq1 := HN.out.frozen 0
            simp at pq0
            go_simp
            clear pq0 pq1
            clear HRw
            have gs := grown_set wc40 (wd.heap.size) 0 (.slice aq X.length cq)
            have zc := HN.out.set 0 (.slice aq X.length cq)
            simp only [List.setIfInBounds_toArray, List.set_cons_zero] at zc
            have hb9 := HB0.out.setCell (p := ⟨wd.heap.size, 0, none⟩) (by simp; omega) (.slice aq X.length cq)
            have n_HB0 : Hid (Below w.heap.size w (wc40.setCell ⟨wd.heap.size, 0, none⟩ (.slice aq X.length cq))) := hb9
            have n_Hf : Hid (CellsAt (wc40.setCell ⟨wd.heap.size, 0, none⟩ (.slice aq X.length cq)) (w.heap.size) 24 #[.slice ad nF cap]) := Hf.out.kept gs (by intro e; injection e with e; omega)
            have n_HF0 : Hid (IsFl (wc40.setCell ⟨wd.heap.size, 0, none⟩ (.slice aq X.length cq)).heap.size (wc40.setCell ⟨wd.heap.size, 0, none⟩ (.slice aq X.length cq)) (.slice ad nF cap) F) := (HFO.out.below hb9).more hb9.size
            have n_HL0 : Hid (RowOf 3 Deed.cell (wc40.setCell ⟨wd.heap.size, 0, none⟩ (.slice aq X.length cq)).heap.size (wc40.setCell ⟨wd.heap.size, 0, none⟩ (.slice aq X.length cq)) (.slice (some ⟨bl, offl, none⟩) l.length lcap) l) := (HLO.out.below hb9).more hb9.size
            have n_HA : Hid (IsFl (wc40.setCell ⟨wd.heap.size, 0, none⟩ (.slice aq X.length cq)).heap.size (wc40.setCell ⟨wd.heap.size, 0, none⟩ (.slice aq X.length cq)) (.slice a1 A.length c1) A) := (HA.out.stored HN.out (fun s h => by cases h) _).more (by simp [World.setCell])
            have n_H9 : Hid (CellsAt (wc40.setCell ⟨wd.heap.size, 0, none⟩ (.slice aq X.length cq)) (wc22.heap.size) 24 #[.slice a1 A.length c1]) := H9.out.kept gs (by intro e; injection e with e; omega)
            have n_HQ : Hid (IsFl (wc40.setCell ⟨wd.heap.size, 0, none⟩ (.slice aq X.length cq)).heap.size (wc40.setCell ⟨wd.heap.size, 0, none⟩ (.slice aq X.length cq)) (.slice aq X.length cq) X) := (HQ.out.stored HN.out (fun s h => by cases h) _).more (by simp [World.setCell])
            have n_HN : Hid (CellsAt (wc40.setCell ⟨wd.heap.size, 0, none⟩ (.slice aq X.length cq)) (wd.heap.size) 24 #[.slice aq X.length cq]) := zc
            clear gs zc hb9 HB0 Hf HF0 HL0 HA H9 HN HQ
            have HB0 := n_HB0
            clear n_HB0
            have Hf := n_Hf
            clear n_Hf
            have HF0 := n_HF0
            clear n_HF0
            have HL0 := n_HL0
            clear n_HL0
            have HA := n_HA
            clear n_HA
            have H9 := n_H9
            clear n_H9
            have HN := n_HN
            clear n_HN
            have HQ := n_HQ
            clear n_HQ
            refine hK.out _ _ ⟨H9.out, HDC.out _ HB0.out⟩ (fun _ => ?_)
            clear hK K
            refine wpL_last (x := 12) rfl (by kernel_rfl) (by kernel_rfl) (fun K hK => ?_)
            go_simp
            refine hK.out _ _ ?_
            refine NoPanic.normal ?_
            clear hK K
            go_wp2_with fail
            go_meet
            exact ⟨⟨_, _, rfl, rfl, HN, HQ⟩, HB0, Hf, HF0, HL0, HA, H9⟩
        case rest =>
        obtain ⟨⟨B16, v16, rfl, rfl, H16, HX⟩, HB0, Hf, HF0, HL0, HA, H9⟩ := hcut
        obtain ⟨w41, hw41⟩ : ∃ x, x = wc := ⟨_, rfl⟩
        subst hw41
        obtain ⟨⟨a16, c16, rfl, _, _⟩, _⟩ := id HX.out
        go_upto_region 15 with fail
        go_cut [18, 19] from 73 to 110 (fun s18 s19 wx => (∃ (Bn : Nat) (vn : Value), s18 = .pointer (some ⟨Bn, 0, none⟩) ∧ s19 = .int .i64 0 ∧ Hid (CellsAt wx Bn 24 #[vn]) ∧ Hid (IsFl wx.heap.size wx vn X)) ∧ Hid (Below w.heap.size w wx) ∧ Hid (CellsAt wx (w.heap.size) 24 #[.slice ad nF cap]) ∧ Hid (IsFl wx.heap.size wx (.slice ad nF cap) F) ∧ Hid (RowOf 3 Deed.cell wx.heap.size wx (.slice (some ⟨bl, offl, none⟩) l.length lcap) l) ∧ Hid (IsFl wx.heap.size wx (.slice a1 A.length c1) A) ∧ Hid (CellsAt wx (wc22.heap.size) 24 #[.slice a1 A.length c1]) ∧ Hid (CellsAt wx (B16) 24 #[.slice a16 X.length c16]) ∧ Hid (IsFl wx.heap.size wx (.slice a16 X.length c16) X))
        case first =>
          replace HB0 : Hid (Below w.heap.size w w41.drew) := HB0.out.drew
          replace Hf : Hid (CellsAt w41.drew (w.heap.size) 24 #[.slice ad nF cap]) := (Hf.out : _)
          replace HF0 : Hid (IsFl w41.drew.heap.size w41.drew (.slice ad nF cap) F) := (HF0.out : _)
          replace HL0 : Hid (RowOf 3 Deed.cell w41.drew.heap.size w41.drew (.slice (some ⟨bl, offl, none⟩) l.length lcap) l) := (HL0.out : _)
          replace HA : Hid (IsFl w41.drew.heap.size w41.drew (.slice a1 A.length c1) A) := (HA.out : _)
          replace H9 : Hid (CellsAt w41.drew (wc22.heap.size) 24 #[.slice a1 A.length c1]) := (H9.out : _)
          replace H16 : Hid (CellsAt w41.drew (B16) 24 #[.slice a16 X.length c16]) := (H16.out : _)
          replace HX : Hid (IsFl w41.drew.heap.size w41.drew (.slice a16 X.length c16) X) := (HX.out : _)
          refine wp_region_noPanic ?_
          refine wp_region_L (S := fun w' => CellsAt w' B16 24 #[.slice a16 X.length c16] ∧ w'.cell? ⟨bl, offl + j * 3, none⟩ = some (.int .i64 kd) ∧ w'.cell? ⟨bl, offl + j * 3 + 1, none⟩ = some (.int .i64 ps) ∧ w'.cell? ⟨bl, offl + j * 3 + 2, none⟩ = some (.int .i64 dv)) (x := 12) (by kernel_rfl) ?_
          generalize w41.drew = wd at *
          have hS0 : CellsAt wd B16 24 #[.slice a16 X.length c16] ∧ wd.cell? ⟨bl, offl + j * 3, none⟩ = some (.int .i64 kd) ∧ wd.cell? ⟨bl, offl + j * 3 + 1, none⟩ = some (.int .i64 ps) ∧ wd.cell? ⟨bl, offl + j * 3 + 2, none⟩ = some (.int .i64 dv) := ⟨H16.out, HDC.out _ HB0.out⟩
          refine wpL_take 0 90 (.agg #[.slice a16 X.length c16]) rfl (by kernel_rfl) (fun _ _ _ h => h) hS0 rfl rfl (fun w' hSw => by obtain ⟨q0, q1, q2, q3⟩ := hSw; have q4 := q0.cell 0; simp at q4; clear q0; go_simp) ?_
          simp only [List.setIfInBounds_toArray, List.set_cons_zero, List.set_cons_succ]
          refine wpL_take 1 91 (.slice (some ⟨bl, offl, none⟩) l.length lcap) rfl (by kernel_rfl) (fun _ _ _ h => h) hS0 rfl rfl (fun w' hSw => by clear hSw; go_simp) ?_
          simp only [List.setIfInBounds_toArray, List.set_cons_zero, List.set_cons_succ]
          refine wpL_take 2 92 (.int .i64 (j : Int)) rfl (by kernel_rfl) (fun _ _ _ h => h) hS0 rfl rfl (fun w' hSw => by clear hSw; go_simp) ?_
          simp only [List.setIfInBounds_toArray, List.set_cons_zero, List.set_cons_succ]
          refine wpL_take 3 93 (.pointer (some ⟨bl, offl + j * 3, none⟩)) rfl (by kernel_rfl) (fun _ _ _ h => h) hS0 rfl rfl (fun w' hSw => by clear hSw; go_simp) ?_
          simp only [List.setIfInBounds_toArray, List.set_cons_zero, List.set_cons_succ]
          refine wpL_take 4 94 (.agg #[.int .i64 kd, .int .i64 ps, .int .i64 dv]) rfl (by kernel_rfl) (fun _ _ _ h => h) hS0 rfl rfl (fun w' hSw => by obtain ⟨q0, q1, q2, q3⟩ := hSw; have q4 := q0.cell 0; simp at q4; clear q0; go_simp) ?_
          simp only [List.setIfInBounds_toArray, List.set_cons_zero, List.set_cons_succ]
          clear hS0
          refine wpL_two (i := 5) (j := 10) rfl rfl (by kernel_rfl) (fun K hK => ?_) (fun K hK => ?_)
          · skip
            go_simp
            replace HB0 : Hid (Below w.heap.size w (wd.alloc (.cells #[.int .i64 kd, .int .i64 ps, .int .i64 dv] 32))) := HB0.out.alloc HB0.out.size _
            replace Hf : Hid (CellsAt (wd.alloc (.cells #[.int .i64 kd, .int .i64 ps, .int .i64 dv] 32)) (w.heap.size) 24 #[.slice ad nF cap]) := Hf.out.kept (World.grownBy_alloc _ _ none) (by simp)
            replace HF0 : Hid (IsFl (wd.alloc (.cells #[.int .i64 kd, .int .i64 ps, .int .i64 dv] 32)).heap.size (wd.alloc (.cells #[.int .i64 kd, .int .i64 ps, .int .i64 dv] 32)) (.slice ad nF cap) F) := (HF0.out.below ((Below.refl _ _).alloc (Nat.le_refl _) _)).more (by simp)
            replace HL0 : Hid (RowOf 3 Deed.cell (wd.alloc (.cells #[.int .i64 kd, .int .i64 ps, .int .i64 dv] 32)).heap.size (wd.alloc (.cells #[.int .i64 kd, .int .i64 ps, .int .i64 dv] 32)) (.slice (some ⟨bl, offl, none⟩) l.length lcap) l) := (HL0.out.below ((Below.refl _ _).alloc (Nat.le_refl _) _)).more (by simp)
            replace HA : Hid (IsFl (wd.alloc (.cells #[.int .i64 kd, .int .i64 ps, .int .i64 dv] 32)).heap.size (wd.alloc (.cells #[.int .i64 kd, .int .i64 ps, .int .i64 dv] 32)) (.slice a1 A.length c1) A) := (HA.out.below ((Below.refl _ _).alloc (Nat.le_refl _) _)).more (by simp)
            replace H9 : Hid (CellsAt (wd.alloc (.cells #[.int .i64 kd, .int .i64 ps, .int .i64 dv] 32)) (wc22.heap.size) 24 #[.slice a1 A.length c1]) := H9.out.kept (World.grownBy_alloc _ _ none) (by simp)
            replace H16 : Hid (CellsAt (wd.alloc (.cells #[.int .i64 kd, .int .i64 ps, .int .i64 dv] 32)) (B16) 24 #[.slice a16 X.length c16]) := H16.out.kept (World.grownBy_alloc _ _ none) (by simp)
            replace HX : Hid (IsFl (wd.alloc (.cells #[.int .i64 kd, .int .i64 ps, .int .i64 dv] 32)).heap.size (wd.alloc (.cells #[.int .i64 kd, .int .i64 ps, .int .i64 dv] 32)) (.slice a16 X.length c16) X) := (HX.out.below ((Below.refl _ _).alloc (Nat.le_refl _) _)).more (by simp)
            have HRw : Hid (RowOf 3 Deed.cell (wd.alloc (.cells #[.int .i64 kd, .int .i64 ps, .int .i64 dv] 32)).heap.size (wd.alloc (.cells #[.int .i64 kd, .int .i64 ps, .int .i64 dv] 32)) (.slice (some ⟨wd.heap.size, 0, none⟩) 1 1) dl) := HROW.out _ _ (by simp)
            refine hK.out _ _ ⟨H16.out, HDC.out _ HB0.out⟩ (fun _ => ?_)
            clear hK K
            generalize (wd.alloc (.cells #[.int .i64 kd, .int .i64 ps, .int .i64 dv] 32)) = wr1 at *
            refine wpL_two (i := 6) (j := 10) rfl rfl (by kernel_rfl) (fun K hK => ?_) (fun K hK => ?_)
            · skip
              go_simp
              refine (HD4.out _ _ _ HX.out HRw.out).mono ?_
              rintro e wc42 ⟨⟨rq, rfl, hrq⟩, bb42⟩
              replace HB0 : Hid (Below w.heap.size w wc42) := HB0.out.trans (bb42.mono HB0.out.size)
              replace Hf : Hid (CellsAt wc42 (w.heap.size) 24 #[.slice ad nF cap]) := Hf.out.below bb42 Hf.out.lt
              replace HF0 : Hid (IsFl wc42.heap.size wc42 (.slice ad nF cap) F) := (HF0.out.below bb42).more bb42.size
              replace HL0 : Hid (RowOf 3 Deed.cell wc42.heap.size wc42 (.slice (some ⟨bl, offl, none⟩) l.length lcap) l) := (HL0.out.below bb42).more bb42.size
              replace HA : Hid (IsFl wc42.heap.size wc42 (.slice a1 A.length c1) A) := (HA.out.below bb42).more bb42.size
              replace H9 : Hid (CellsAt wc42 (wc22.heap.size) 24 #[.slice a1 A.length c1]) := H9.out.below bb42 H9.out.lt
              replace H16 : Hid (CellsAt wc42 (B16) 24 #[.slice a16 X.length c16]) := H16.out.below bb42 H16.out.lt
              replace HX : Hid (IsFl wc42.heap.size wc42 (.slice a16 X.length c16) X) := (HX.out.below bb42).more bb42.size
              replace HRw : Hid (RowOf 3 Deed.cell wc42.heap.size wc42 (.slice (some ⟨wd.heap.size, 0, none⟩) 1 1) dl) := (HRw.out.below bb42).more bb42.size
              clear bb42
              obtain ⟨⟨aq, cq, rfl, _, _⟩, _⟩ := id hrq
              have HQ : Hid (IsFl wc42.heap.size wc42 (.slice aq X.length cq) X) := hrq
              clear hrq
              go_simp
              refine hK.out _ _ ⟨H16.out, HDC.out _ HB0.out⟩ (fun _ => ?_)
              clear hK K
              refine wpL_take 7 89 (.tuple #[.agg #[.slice aq X.length cq], .int .i64 0]) rfl (by kernel_rfl) (fun _ _ _ h => h) (show _ from ⟨H16.out, HDC.out _ HB0.out⟩) rfl rfl (fun w' hSw => by clear hSw; go_simp) ?_
              simp only [List.setIfInBounds_toArray, List.set_cons_zero, List.set_cons_succ]
              refine wpL_take 8 97 (.agg #[.slice aq X.length cq]) rfl (by kernel_rfl) (fun _ _ _ h => h) (show _ from ⟨H16.out, HDC.out _ HB0.out⟩) rfl rfl (fun w' hSw => by clear hSw; go_simp) ?_
              simp only [List.setIfInBounds_toArray, List.set_cons_zero, List.set_cons_succ]
              refine wpL_take 9 98 (.int .i64 0) rfl (by kernel_rfl) (fun _ _ _ h => h) (show _ from ⟨H16.out, HDC.out _ HB0.out⟩) rfl rfl (fun w' hSw => by clear hSw; go_simp) ?_
              simp only [List.setIfInBounds_toArray, List.set_cons_zero, List.set_cons_succ]
              refine wpL_step (i := 10) rfl (by kernel_rfl) (fun K hK => ?_)
              go_simp
              have LTHf := Hf.out.lt
              have LTH9 := H9.out.lt
              have LTH16 := H16.out.lt
              replace HB0 : Hid (Below w.heap.size w (wc42.alloc (.cells #[.slice none 0 0] 24))) := HB0.out.alloc HB0.out.size _
              replace Hf : Hid (CellsAt (wc42.alloc (.cells #[.slice none 0 0] 24)) (w.heap.size) 24 #[.slice ad nF cap]) := Hf.out.kept (World.grownBy_alloc _ _ none) (by simp)
              replace HF0 : Hid (IsFl (wc42.alloc (.cells #[.slice none 0 0] 24)).heap.size (wc42.alloc (.cells #[.slice none 0 0] 24)) (.slice ad nF cap) F) := (HF0.out.below ((Below.refl _ _).alloc (Nat.le_refl _) _)).more (by simp)
              replace HL0 : Hid (RowOf 3 Deed.cell (wc42.alloc (.cells #[.slice none 0 0] 24)).heap.size (wc42.alloc (.cells #[.slice none 0 0] 24)) (.slice (some ⟨bl, offl, none⟩) l.length lcap) l) := (HL0.out.below ((Below.refl _ _).alloc (Nat.le_refl _) _)).more (by simp)
              replace HA : Hid (IsFl (wc42.alloc (.cells #[.slice none 0 0] 24)).heap.size (wc42.alloc (.cells #[.slice none 0 0] 24)) (.slice a1 A.length c1) A) := (HA.out.below ((Below.refl _ _).alloc (Nat.le_refl _) _)).more (by simp)
              replace H9 : Hid (CellsAt (wc42.alloc (.cells #[.slice none 0 0] 24)) (wc22.heap.size) 24 #[.slice a1 A.length c1]) := H9.out.kept (World.grownBy_alloc _ _ none) (by simp)
              replace H16 : Hid (CellsAt (wc42.alloc (.cells #[.slice none 0 0] 24)) (B16) 24 #[.slice a16 X.length c16]) := H16.out.kept (World.grownBy_alloc _ _ none) (by simp)
              replace HX : Hid (IsFl (wc42.alloc (.cells #[.slice none 0 0] 24)).heap.size (wc42.alloc (.cells #[.slice none 0 0] 24)) (.slice a16 X.length c16) X) := (HX.out.below ((Below.refl _ _).alloc (Nat.le_refl _) _)).more (by simp)
              replace HRw : Hid (RowOf 3 Deed.cell (wc42.alloc (.cells #[.slice none 0 0] 24)).heap.size (wc42.alloc (.cells #[.slice none 0 0] 24)) (.slice (some ⟨wd.heap.size, 0, none⟩) 1 1) dl) := (HRw.out.below ((Below.refl _ _).alloc (Nat.le_refl _) _)).more (by simp)
              replace HQ : Hid (IsFl (wc42.alloc (.cells #[.slice none 0 0] 24)).heap.size (wc42.alloc (.cells #[.slice none 0 0] 24)) (.slice aq X.length cq) X) := (HQ.out.below ((Below.refl _ _).alloc (Nat.le_refl _) _)).more (by simp)
              have HN : Hid (CellsAt (wc42.alloc (.cells #[.slice none 0 0] 24)) (wc42.heap.size) 24 #[.slice none 0 0]) := CellsAt.new _ _ _
              refine hK.out _ _ ⟨H16.out, HDC.out _ HB0.out⟩ (fun _ => ?_)
              clear hK K
              generalize (wc42.alloc (.cells #[.slice none 0 0] 24)) = wq at *
              refine wpL_step (i := 11) rfl (by kernel_rfl) (fun K hK => ?_)
              have pq0 := HN.out.cell 0
              have pq1 := HN.out.frozen 0
              simp at pq0
              go_simp
              clear pq0 pq1
              clear HRw
              have gs := grown_set wq (wc42.heap.size) 0 (.slice aq X.length cq)
              have zc := HN.out.set 0 (.slice aq X.length cq)
              simp only [List.setIfInBounds_toArray, List.set_cons_zero] at zc
              have hb9 := HB0.out.setCell (p := ⟨wc42.heap.size, 0, none⟩) (by simp; omega) (.slice aq X.length cq)
              have n_HB0 : Hid (Below w.heap.size w (wq.setCell ⟨wc42.heap.size, 0, none⟩ (.slice aq X.length cq))) := hb9
              have n_Hf : Hid (CellsAt (wq.setCell ⟨wc42.heap.size, 0, none⟩ (.slice aq X.length cq)) (w.heap.size) 24 #[.slice ad nF cap]) := Hf.out.kept gs (by intro e; injection e with e; omega)
              have n_HF0 : Hid (IsFl (wq.setCell ⟨wc42.heap.size, 0, none⟩ (.slice aq X.length cq)).heap.size (wq.setCell ⟨wc42.heap.size, 0, none⟩ (.slice aq X.length cq)) (.slice ad nF cap) F) := (HFO.out.below hb9).more hb9.size
              have n_HL0 : Hid (RowOf 3 Deed.cell (wq.setCell ⟨wc42.heap.size, 0, none⟩ (.slice aq X.length cq)).heap.size (wq.setCell ⟨wc42.heap.size, 0, none⟩ (.slice aq X.length cq)) (.slice (some ⟨bl, offl, none⟩) l.length lcap) l) := (HLO.out.below hb9).more hb9.size
              have n_HA : Hid (IsFl (wq.setCell ⟨wc42.heap.size, 0, none⟩ (.slice aq X.length cq)).heap.size (wq.setCell ⟨wc42.heap.size, 0, none⟩ (.slice aq X.length cq)) (.slice a1 A.length c1) A) := (HA.out.stored HN.out (fun s h => by cases h) _).more (by simp [World.setCell])
              have n_H9 : Hid (CellsAt (wq.setCell ⟨wc42.heap.size, 0, none⟩ (.slice aq X.length cq)) (wc22.heap.size) 24 #[.slice a1 A.length c1]) := H9.out.kept gs (by intro e; injection e with e; omega)
              have n_H16 : Hid (CellsAt (wq.setCell ⟨wc42.heap.size, 0, none⟩ (.slice aq X.length cq)) (B16) 24 #[.slice a16 X.length c16]) := H16.out.kept gs (by intro e; injection e with e; omega)
              have n_HX : Hid (IsFl (wq.setCell ⟨wc42.heap.size, 0, none⟩ (.slice aq X.length cq)).heap.size (wq.setCell ⟨wc42.heap.size, 0, none⟩ (.slice aq X.length cq)) (.slice a16 X.length c16) X) := (HX.out.stored HN.out (fun s h => by cases h) _).more (by simp [World.setCell])
              have n_HQ : Hid (IsFl (wq.setCell ⟨wc42.heap.size, 0, none⟩ (.slice aq X.length cq)).heap.size (wq.setCell ⟨wc42.heap.size, 0, none⟩ (.slice aq X.length cq)) (.slice aq X.length cq) X) := (HQ.out.stored HN.out (fun s h => by cases h) _).more (by simp [World.setCell])
              have n_HN : Hid (CellsAt (wq.setCell ⟨wc42.heap.size, 0, none⟩ (.slice aq X.length cq)) (wc42.heap.size) 24 #[.slice aq X.length cq]) := zc
              clear gs zc hb9 HB0 Hf HF0 HL0 HA H9 H16 HX HQ HN
              have HB0 := n_HB0
              clear n_HB0
              have Hf := n_Hf
              clear n_Hf
              have HF0 := n_HF0
              clear n_HF0
              have HL0 := n_HL0
              clear n_HL0
              have HA := n_HA
              clear n_HA
              have H9 := n_H9
              clear n_H9
              have H16 := n_H16
              clear n_H16
              have HX := n_HX
              clear n_HX
              have HQ := n_HQ
              clear n_HQ
              have HN := n_HN
              clear n_HN
              refine hK.out _ _ ⟨H16.out, HDC.out _ HB0.out⟩ (fun _ => ?_)
              clear hK K
              refine wpL_last (x := 12) rfl (by kernel_rfl) (by kernel_rfl) (fun K hK => ?_)
              go_simp
              refine hK.out _ _ ?_
              refine NoPanic.normal ?_
              clear hK K
              go_wp2_with fail
              go_meet
              exact ⟨⟨_, _, rfl, rfl, HN, HQ⟩, HB0, Hf, HF0, HL0, HA, H9, H16, HX⟩
            · skip
              go_simp
              have LTHf := Hf.out.lt
              have LTH9 := H9.out.lt
              have LTH16 := H16.out.lt
              replace HB0 : Hid (Below w.heap.size w (wr1.alloc (.cells #[.slice none 0 0] 24))) := HB0.out.alloc HB0.out.size _
              replace Hf : Hid (CellsAt (wr1.alloc (.cells #[.slice none 0 0] 24)) (w.heap.size) 24 #[.slice ad nF cap]) := Hf.out.kept (World.grownBy_alloc _ _ none) (by simp)
              replace HF0 : Hid (IsFl (wr1.alloc (.cells #[.slice none 0 0] 24)).heap.size (wr1.alloc (.cells #[.slice none 0 0] 24)) (.slice ad nF cap) F) := (HF0.out.below ((Below.refl _ _).alloc (Nat.le_refl _) _)).more (by simp)
              replace HL0 : Hid (RowOf 3 Deed.cell (wr1.alloc (.cells #[.slice none 0 0] 24)).heap.size (wr1.alloc (.cells #[.slice none 0 0] 24)) (.slice (some ⟨bl, offl, none⟩) l.length lcap) l) := (HL0.out.below ((Below.refl _ _).alloc (Nat.le_refl _) _)).more (by simp)
              replace HA : Hid (IsFl (wr1.alloc (.cells #[.slice none 0 0] 24)).heap.size (wr1.alloc (.cells #[.slice none 0 0] 24)) (.slice a1 A.length c1) A) := (HA.out.below ((Below.refl _ _).alloc (Nat.le_refl _) _)).more (by simp)
              replace H9 : Hid (CellsAt (wr1.alloc (.cells #[.slice none 0 0] 24)) (wc22.heap.size) 24 #[.slice a1 A.length c1]) := H9.out.kept (World.grownBy_alloc _ _ none) (by simp)
              replace H16 : Hid (CellsAt (wr1.alloc (.cells #[.slice none 0 0] 24)) (B16) 24 #[.slice a16 X.length c16]) := H16.out.kept (World.grownBy_alloc _ _ none) (by simp)
              replace HX : Hid (IsFl (wr1.alloc (.cells #[.slice none 0 0] 24)).heap.size (wr1.alloc (.cells #[.slice none 0 0] 24)) (.slice a16 X.length c16) X) := (HX.out.below ((Below.refl _ _).alloc (Nat.le_refl _) _)).more (by simp)
              replace HRw : Hid (RowOf 3 Deed.cell (wr1.alloc (.cells #[.slice none 0 0] 24)).heap.size (wr1.alloc (.cells #[.slice none 0 0] 24)) (.slice (some ⟨wd.heap.size, 0, none⟩) 1 1) dl) := (HRw.out.below ((Below.refl _ _).alloc (Nat.le_refl _) _)).more (by simp)
              have HN : Hid (CellsAt (wr1.alloc (.cells #[.slice none 0 0] 24)) (wr1.heap.size) 24 #[.slice none 0 0]) := CellsAt.new _ _ _
              refine hK.out _ _ ⟨H16.out, HDC.out _ HB0.out⟩ (fun _ => ?_)
              clear hK K
              generalize (wr1.alloc (.cells #[.slice none 0 0] 24)) = wq at *
              refine wpL_step (i := 6) rfl (by kernel_rfl) (fun K hK => ?_)
              go_simp
              refine (HD4.out _ _ _ HX.out HRw.out).mono ?_
              rintro e wc45 ⟨⟨rq, rfl, hrq⟩, bb45⟩
              replace HB0 : Hid (Below w.heap.size w wc45) := HB0.out.trans (bb45.mono HB0.out.size)
              replace Hf : Hid (CellsAt wc45 (w.heap.size) 24 #[.slice ad nF cap]) := Hf.out.below bb45 Hf.out.lt
              replace HF0 : Hid (IsFl wc45.heap.size wc45 (.slice ad nF cap) F) := (HF0.out.below bb45).more bb45.size
              replace HL0 : Hid (RowOf 3 Deed.cell wc45.heap.size wc45 (.slice (some ⟨bl, offl, none⟩) l.length lcap) l) := (HL0.out.below bb45).more bb45.size
              replace HA : Hid (IsFl wc45.heap.size wc45 (.slice a1 A.length c1) A) := (HA.out.below bb45).more bb45.size
              replace H9 : Hid (CellsAt wc45 (wc22.heap.size) 24 #[.slice a1 A.length c1]) := H9.out.below bb45 H9.out.lt
              replace H16 : Hid (CellsAt wc45 (B16) 24 #[.slice a16 X.length c16]) := H16.out.below bb45 H16.out.lt
              replace HX : Hid (IsFl wc45.heap.size wc45 (.slice a16 X.length c16) X) := (HX.out.below bb45).more bb45.size
              replace HRw : Hid (RowOf 3 Deed.cell wc45.heap.size wc45 (.slice (some ⟨wd.heap.size, 0, none⟩) 1 1) dl) := (HRw.out.below bb45).more bb45.size
              replace HN : Hid (CellsAt wc45 (wr1.heap.size) 24 #[.slice none 0 0]) := HN.out.below bb45 HN.out.lt
              clear bb45
              obtain ⟨⟨aq, cq, rfl, _, _⟩, _⟩ := id hrq
              have HQ : Hid (IsFl wc45.heap.size wc45 (.slice aq X.length cq) X) := hrq
              clear hrq
              go_simp
              refine hK.out _ _ ⟨H16.out, HDC.out _ HB0.out⟩ (fun _ => ?_)
              clear hK K
              refine wpL_take 7 89 (.tuple #[.agg #[.slice aq X.length cq], .int .i64 0]) rfl (by kernel_rfl) (fun _ _ _ h => h) (show _ from ⟨H16.out, HDC.out _ HB0.out⟩) rfl rfl (fun w' hSw => by clear hSw; go_simp) ?_
              simp only [List.setIfInBounds_toArray, List.set_cons_zero, List.set_cons_succ]
              refine wpL_take 8 97 (.agg #[.slice aq X.length cq]) rfl (by kernel_rfl) (fun _ _ _ h => h) (show _ from ⟨H16.out, HDC.out _ HB0.out⟩) rfl rfl (fun w' hSw => by clear hSw; go_simp) ?_
              simp only [List.setIfInBounds_toArray, List.set_cons_zero, List.set_cons_succ]
              refine wpL_take 9 98 (.int .i64 0) rfl (by kernel_rfl) (fun _ _ _ h => h) (show _ from ⟨H16.out, HDC.out _ HB0.out⟩) rfl rfl (fun w' hSw => by clear hSw; go_simp) ?_
              simp only [List.setIfInBounds_toArray, List.set_cons_zero, List.set_cons_succ]
              refine wpL_step (i := 11) rfl (by kernel_rfl) (fun K hK => ?_)
              have pq0 := HN.out.cell 0
              have pq1 := HN.out.frozen 0
              simp at pq0
              go_simp
              clear pq0 pq1
              clear HRw
              have gs := grown_set wc45 (wr1.heap.size) 0 (.slice aq X.length cq)
              have zc := HN.out.set 0 (.slice aq X.length cq)
              simp only [List.setIfInBounds_toArray, List.set_cons_zero] at zc
              have hb9 := HB0.out.setCell (p := ⟨wr1.heap.size, 0, none⟩) (by simp; omega) (.slice aq X.length cq)
              have n_HB0 : Hid (Below w.heap.size w (wc45.setCell ⟨wr1.heap.size, 0, none⟩ (.slice aq X.length cq))) := hb9
              have n_Hf : Hid (CellsAt (wc45.setCell ⟨wr1.heap.size, 0, none⟩ (.slice aq X.length cq)) (w.heap.size) 24 #[.slice ad nF cap]) := Hf.out.kept gs (by intro e; injection e with e; omega)
              have n_HF0 : Hid (IsFl (wc45.setCell ⟨wr1.heap.size, 0, none⟩ (.slice aq X.length cq)).heap.size (wc45.setCell ⟨wr1.heap.size, 0, none⟩ (.slice aq X.length cq)) (.slice ad nF cap) F) := (HFO.out.below hb9).more hb9.size
              have n_HL0 : Hid (RowOf 3 Deed.cell (wc45.setCell ⟨wr1.heap.size, 0, none⟩ (.slice aq X.length cq)).heap.size (wc45.setCell ⟨wr1.heap.size, 0, none⟩ (.slice aq X.length cq)) (.slice (some ⟨bl, offl, none⟩) l.length lcap) l) := (HLO.out.below hb9).more hb9.size
              have n_HA : Hid (IsFl (wc45.setCell ⟨wr1.heap.size, 0, none⟩ (.slice aq X.length cq)).heap.size (wc45.setCell ⟨wr1.heap.size, 0, none⟩ (.slice aq X.length cq)) (.slice a1 A.length c1) A) := (HA.out.stored HN.out (fun s h => by cases h) _).more (by simp [World.setCell])
              have n_H9 : Hid (CellsAt (wc45.setCell ⟨wr1.heap.size, 0, none⟩ (.slice aq X.length cq)) (wc22.heap.size) 24 #[.slice a1 A.length c1]) := H9.out.kept gs (by intro e; injection e with e; omega)
              have n_H16 : Hid (CellsAt (wc45.setCell ⟨wr1.heap.size, 0, none⟩ (.slice aq X.length cq)) (B16) 24 #[.slice a16 X.length c16]) := H16.out.kept gs (by intro e; injection e with e; omega)
              have n_HX : Hid (IsFl (wc45.setCell ⟨wr1.heap.size, 0, none⟩ (.slice aq X.length cq)).heap.size (wc45.setCell ⟨wr1.heap.size, 0, none⟩ (.slice aq X.length cq)) (.slice a16 X.length c16) X) := (HX.out.stored HN.out (fun s h => by cases h) _).more (by simp [World.setCell])
              have n_HQ : Hid (IsFl (wc45.setCell ⟨wr1.heap.size, 0, none⟩ (.slice aq X.length cq)).heap.size (wc45.setCell ⟨wr1.heap.size, 0, none⟩ (.slice aq X.length cq)) (.slice aq X.length cq) X) := (HQ.out.stored HN.out (fun s h => by cases h) _).more (by simp [World.setCell])
              have n_HN : Hid (CellsAt (wc45.setCell ⟨wr1.heap.size, 0, none⟩ (.slice aq X.length cq)) (wr1.heap.size) 24 #[.slice aq X.length cq]) := zc
              clear gs zc hb9 HB0 Hf HF0 HL0 HA H9 H16 HX HN HQ
              have HB0 := n_HB0
              clear n_HB0
              have Hf := n_Hf
              clear n_Hf
              have HF0 := n_HF0
              clear n_HF0
              have HL0 := n_HL0
              clear n_HL0
              have HA := n_HA
              clear n_HA
              have H9 := n_H9
              clear n_H9
              have H16 := n_H16
              clear n_H16
              have HX := n_HX
              clear n_HX
              have HN := n_HN
              clear n_HN
              have HQ := n_HQ
              clear n_HQ
              refine hK.out _ _ ⟨H16.out, HDC.out _ HB0.out⟩ (fun _ => ?_)
              clear hK K
              refine wpL_last (x := 12) rfl (by kernel_rfl) (by kernel_rfl) (fun K hK => ?_)
              go_simp
              refine hK.out _ _ ?_
              refine NoPanic.normal ?_
              clear hK K
              go_wp2_with fail
              go_meet
              exact ⟨⟨_, _, rfl, rfl, HN, HQ⟩, HB0, Hf, HF0, HL0, HA, H9, H16, HX⟩
          · skip
            go_simp
            have LTHf := Hf.out.lt
            have LTH9 := H9.out.lt
            have LTH16 := H16.out.lt
            replace HB0 : Hid (Below w.heap.size w (wd.alloc (.cells #[.slice none 0 0] 24))) := HB0.out.alloc HB0.out.size _
            replace Hf : Hid (CellsAt (wd.alloc (.cells #[.slice none 0 0] 24)) (w.heap.size) 24 #[.slice ad nF cap]) := Hf.out.kept (World.grownBy_alloc _ _ none) (by simp)
            replace HF0 : Hid (IsFl (wd.alloc (.cells #[.slice none 0 0] 24)).heap.size (wd.alloc (.cells #[.slice none 0 0] 24)) (.slice ad nF cap) F) := (HF0.out.below ((Below.refl _ _).alloc (Nat.le_refl _) _)).more (by simp)
            replace HL0 : Hid (RowOf 3 Deed.cell (wd.alloc (.cells #[.slice none 0 0] 24)).heap.size (wd.alloc (.cells #[.slice none 0 0] 24)) (.slice (some ⟨bl, offl, none⟩) l.length lcap) l) := (HL0.out.below ((Below.refl _ _).alloc (Nat.le_refl _) _)).more (by simp)
            replace HA : Hid (IsFl (wd.alloc (.cells #[.slice none 0 0] 24)).heap.size (wd.alloc (.cells #[.slice none 0 0] 24)) (.slice a1 A.length c1) A) := (HA.out.below ((Below.refl _ _).alloc (Nat.le_refl _) _)).more (by simp)
            replace H9 : Hid (CellsAt (wd.alloc (.cells #[.slice none 0 0] 24)) (wc22.heap.size) 24 #[.slice a1 A.length c1]) := H9.out.kept (World.grownBy_alloc _ _ none) (by simp)
            replace H16 : Hid (CellsAt (wd.alloc (.cells #[.slice none 0 0] 24)) (B16) 24 #[.slice a16 X.length c16]) := H16.out.kept (World.grownBy_alloc _ _ none) (by simp)
            replace HX : Hid (IsFl (wd.alloc (.cells #[.slice none 0 0] 24)).heap.size (wd.alloc (.cells #[.slice none 0 0] 24)) (.slice a16 X.length c16) X) := (HX.out.below ((Below.refl _ _).alloc (Nat.le_refl _) _)).more (by simp)
            have HN : Hid (CellsAt (wd.alloc (.cells #[.slice none 0 0] 24)) (wd.heap.size) 24 #[.slice none 0 0]) := CellsAt.new _ _ _
            refine hK.out _ _ ⟨H16.out, HDC.out _ HB0.out⟩ (fun _ => ?_)
            clear hK K
            generalize (wd.alloc (.cells #[.slice none 0 0] 24)) = wq at *
            refine wpL_step (i := 5) rfl (by kernel_rfl) (fun K hK => ?_)
            go_simp
            replace HB0 : Hid (Below w.heap.size w (wq.alloc (.cells #[.int .i64 kd, .int .i64 ps, .int .i64 dv] 32))) := HB0.out.alloc HB0.out.size _
            replace Hf : Hid (CellsAt (wq.alloc (.cells #[.int .i64 kd, .int .i64 ps, .int .i64 dv] 32)) (w.heap.size) 24 #[.slice ad nF cap]) := Hf.out.kept (World.grownBy_alloc _ _ none) (by simp)
            replace HF0 : Hid (IsFl (wq.alloc (.cells #[.int .i64 kd, .int .i64 ps, .int .i64 dv] 32)).heap.size (wq.alloc (.cells #[.int .i64 kd, .int .i64 ps, .int .i64 dv] 32)) (.slice ad nF cap) F) := (HF0.out.below ((Below.refl _ _).alloc (Nat.le_refl _) _)).more (by simp)
            replace HL0 : Hid (RowOf 3 Deed.cell (wq.alloc (.cells #[.int .i64 kd, .int .i64 ps, .int .i64 dv] 32)).heap.size (wq.alloc (.cells #[.int .i64 kd, .int .i64 ps, .int .i64 dv] 32)) (.slice (some ⟨bl, offl, none⟩) l.length lcap) l) := (HL0.out.below ((Below.refl _ _).alloc (Nat.le_refl _) _)).more (by simp)
            replace HA : Hid (IsFl (wq.alloc (.cells #[.int .i64 kd, .int .i64 ps, .int .i64 dv] 32)).heap.size (wq.alloc (.cells #[.int .i64 kd, .int .i64 ps, .int .i64 dv] 32)) (.slice a1 A.length c1) A) := (HA.out.below ((Below.refl _ _).alloc (Nat.le_refl _) _)).more (by simp)
            replace H9 : Hid (CellsAt (wq.alloc (.cells #[.int .i64 kd, .int .i64 ps, .int .i64 dv] 32)) (wc22.heap.size) 24 #[.slice a1 A.length c1]) := H9.out.kept (World.grownBy_alloc _ _ none) (by simp)
            replace H16 : Hid (CellsAt (wq.alloc (.cells #[.int .i64 kd, .int .i64 ps, .int .i64 dv] 32)) (B16) 24 #[.slice a16 X.length c16]) := H16.out.kept (World.grownBy_alloc _ _ none) (by simp)
            replace HX : Hid (IsFl (wq.alloc (.cells #[.int .i64 kd, .int .i64 ps, .int .i64 dv] 32)).heap.size (wq.alloc (.cells #[.int .i64 kd, .int .i64 ps, .int .i64 dv] 32)) (.slice a16 X.length c16) X) := (HX.out.below ((Below.refl _ _).alloc (Nat.le_refl _) _)).more (by simp)
            replace HN : Hid (CellsAt (wq.alloc (.cells #[.int .i64 kd, .int .i64 ps, .int .i64 dv] 32)) (wd.heap.size) 24 #[.slice none 0 0]) := HN.out.kept (World.grownBy_alloc _ _ none) (by simp)
            have HRw : Hid (RowOf 3 Deed.cell (wq.alloc (.cells #[.int .i64 kd, .int .i64 ps, .int .i64 dv] 32)).heap.size (wq.alloc (.cells #[.int .i64 kd, .int .i64 ps, .int .i64 dv] 32)) (.slice (some ⟨wq.heap.size, 0, none⟩) 1 1) dl) := HROW.out _ _ (by simp)
            refine hK.out _ _ ⟨H16.out, HDC.out _ HB0.out⟩ (fun _ => ?_)
            clear hK K
            generalize (wq.alloc (.cells #[.int .i64 kd, .int .i64 ps, .int .i64 dv] 32)) = wr1 at *
            refine wpL_step (i := 6) rfl (by kernel_rfl) (fun K hK => ?_)
            go_simp
            refine (HD4.out _ _ _ HX.out HRw.out).mono ?_
            rintro e wc48 ⟨⟨rq, rfl, hrq⟩, bb48⟩
            replace HB0 : Hid (Below w.heap.size w wc48) := HB0.out.trans (bb48.mono HB0.out.size)
            replace Hf : Hid (CellsAt wc48 (w.heap.size) 24 #[.slice ad nF cap]) := Hf.out.below bb48 Hf.out.lt
            replace HF0 : Hid (IsFl wc48.heap.size wc48 (.slice ad nF cap) F) := (HF0.out.below bb48).more bb48.size
            replace HL0 : Hid (RowOf 3 Deed.cell wc48.heap.size wc48 (.slice (some ⟨bl, offl, none⟩) l.length lcap) l) := (HL0.out.below bb48).more bb48.size
            replace HA : Hid (IsFl wc48.heap.size wc48 (.slice a1 A.length c1) A) := (HA.out.below bb48).more bb48.size
            replace H9 : Hid (CellsAt wc48 (wc22.heap.size) 24 #[.slice a1 A.length c1]) := H9.out.below bb48 H9.out.lt
            replace H16 : Hid (CellsAt wc48 (B16) 24 #[.slice a16 X.length c16]) := H16.out.below bb48 H16.out.lt
            replace HX : Hid (IsFl wc48.heap.size wc48 (.slice a16 X.length c16) X) := (HX.out.below bb48).more bb48.size
            replace HN : Hid (CellsAt wc48 (wd.heap.size) 24 #[.slice none 0 0]) := HN.out.below bb48 HN.out.lt
            replace HRw : Hid (RowOf 3 Deed.cell wc48.heap.size wc48 (.slice (some ⟨wq.heap.size, 0, none⟩) 1 1) dl) := (HRw.out.below bb48).more bb48.size
            clear bb48
            obtain ⟨⟨aq, cq, rfl, _, _⟩, _⟩ := id hrq
            have HQ : Hid (IsFl wc48.heap.size wc48 (.slice aq X.length cq) X) := hrq
            clear hrq
            go_simp
            refine hK.out _ _ ⟨H16.out, HDC.out _ HB0.out⟩ (fun _ => ?_)
            clear hK K
            refine wpL_take 7 89 (.tuple #[.agg #[.slice aq X.length cq], .int .i64 0]) rfl (by kernel_rfl) (fun _ _ _ h => h) (show _ from ⟨H16.out, HDC.out _ HB0.out⟩) rfl rfl (fun w' hSw => by clear hSw; go_simp) ?_
            simp only [List.setIfInBounds_toArray, List.set_cons_zero, List.set_cons_succ]
            refine wpL_take 8 97 (.agg #[.slice aq X.length cq]) rfl (by kernel_rfl) (fun _ _ _ h => h) (show _ from ⟨H16.out, HDC.out _ HB0.out⟩) rfl rfl (fun w' hSw => by clear hSw; go_simp) ?_
            simp only [List.setIfInBounds_toArray, List.set_cons_zero, List.set_cons_succ]
            refine wpL_take 9 98 (.int .i64 0) rfl (by kernel_rfl) (fun _ _ _ h => h) (show _ from ⟨H16.out, HDC.out _ HB0.out⟩) rfl rfl (fun w' hSw => by clear hSw; go_simp) ?_
            simp only [List.setIfInBounds_toArray, List.set_cons_zero, List.set_cons_succ]
            refine wpL_step (i := 11) rfl (by kernel_rfl) (fun K hK => ?_)
            have pq0 := HN.out.cell 0
            have pq1 := HN.out.frozen 0
            simp at pq0
            go_simp
            clear pq0 pq1
            clear HRw
            have gs := grown_set wc48 (wd.heap.size) 0 (.slice aq X.length cq)
            have zc := HN.out.set 0 (.slice aq X.length cq)
            simp only [List.setIfInBounds_toArray, List.set_cons_zero] at zc
            have hb9 := HB0.out.setCell (p := ⟨wd.heap.size, 0, none⟩) (by simp; omega) (.slice aq X.length cq)
            have n_HB0 : Hid (Below w.heap.size w (wc48.setCell ⟨wd.heap.size, 0, none⟩ (.slice aq X.length cq))) := hb9
            have n_Hf : Hid (CellsAt (wc48.setCell ⟨wd.heap.size, 0, none⟩ (.slice aq X.length cq)) (w.heap.size) 24 #[.slice ad nF cap]) := Hf.out.kept gs (by intro e; injection e with e; omega)
            have n_HF0 : Hid (IsFl (wc48.setCell ⟨wd.heap.size, 0, none⟩ (.slice aq X.length cq)).heap.size (wc48.setCell ⟨wd.heap.size, 0, none⟩ (.slice aq X.length cq)) (.slice ad nF cap) F) := (HFO.out.below hb9).more hb9.size
            have n_HL0 : Hid (RowOf 3 Deed.cell (wc48.setCell ⟨wd.heap.size, 0, none⟩ (.slice aq X.length cq)).heap.size (wc48.setCell ⟨wd.heap.size, 0, none⟩ (.slice aq X.length cq)) (.slice (some ⟨bl, offl, none⟩) l.length lcap) l) := (HLO.out.below hb9).more hb9.size
            have n_HA : Hid (IsFl (wc48.setCell ⟨wd.heap.size, 0, none⟩ (.slice aq X.length cq)).heap.size (wc48.setCell ⟨wd.heap.size, 0, none⟩ (.slice aq X.length cq)) (.slice a1 A.length c1) A) := (HA.out.stored HN.out (fun s h => by cases h) _).more (by simp [World.setCell])
            have n_H9 : Hid (CellsAt (wc48.setCell ⟨wd.heap.size, 0, none⟩ (.slice aq X.length cq)) (wc22.heap.size) 24 #[.slice a1 A.length c1]) := H9.out.kept gs (by intro e; injection e with e; omega)
            have n_H16 : Hid (CellsAt (wc48.setCell ⟨wd.heap.size, 0, none⟩ (.slice aq X.length cq)) (B16) 24 #[.slice a16 X.length c16]) := H16.out.kept gs (by intro e; injection e with e; omega)
            have n_HX : Hid (IsFl (wc48.setCell ⟨wd.heap.size, 0, none⟩ (.slice aq X.length cq)).heap.size (wc48.setCell ⟨wd.heap.size, 0, none⟩ (.slice aq X.length cq)) (.slice a16 X.length c16) X) := (HX.out.stored HN.out (fun s h => by cases h) _).more (by simp [World.setCell])
            have n_HQ : Hid (IsFl (wc48.setCell ⟨wd.heap.size, 0, none⟩ (.slice aq X.length cq)).heap.size (wc48.setCell ⟨wd.heap.size, 0, none⟩ (.slice aq X.length cq)) (.slice aq X.length cq) X) := (HQ.out.stored HN.out (fun s h => by cases h) _).more (by simp [World.setCell])
            have n_HN : Hid (CellsAt (wc48.setCell ⟨wd.heap.size, 0, none⟩ (.slice aq X.length cq)) (wd.heap.size) 24 #[.slice aq X.length cq]) := zc
            clear gs zc hb9 HB0 Hf HF0 HL0 HA H9 H16 HX HN HQ
            have HB0 := n_HB0
            clear n_HB0
            have Hf := n_Hf
            clear n_Hf
            have HF0 := n_HF0
            clear n_HF0
            have HL0 := n_HL0
            clear n_HL0
            have HA := n_HA
            clear n_HA
            have H9 := n_H9
            clear n_H9
            have H16 := n_H16
            clear n_H16
            have HX := n_HX
            clear n_HX
            have HN := n_HN
            clear n_HN
            have HQ := n_HQ
            clear n_HQ
            refine hK.out _ _ ⟨H16.out, HDC.out _ HB0.out⟩ (fun _ => ?_)
            clear hK K
            refine wpL_last (x := 12) rfl (by kernel_rfl) (by kernel_rfl) (fun K hK => ?_)
            go_simp
            refine hK.out _ _ ?_
            refine NoPanic.normal ?_
            clear hK K
            go_wp2_with fail
            go_meet
            exact ⟨⟨_, _, rfl, rfl, HN, HQ⟩, HB0, Hf, HF0, HL0, HA, H9, H16, HX⟩
        case rest =>
        obtain ⟨⟨B18, v18, rfl, rfl, H18, HY⟩, HB0, Hf, HF0, HL0, HA, H9, H16, HX⟩ := hcut
        obtain ⟨w42, hw42⟩ : ∃ x, x = wc := ⟨_, rfl⟩
        subst hw42
        obtain ⟨⟨a18, c18, rfl, _, _⟩, _⟩ := id HY.out
        have pl_H16_0 := H16.out.cell 0
        simp at pl_H16_0
        have pl_H16_lt := H16.out.lt
        have pl_H18_0 := H18.out.cell 0
        simp at pl_H18_0
        have pl_H18_lt := H18.out.lt
        go_wp2_with fail
        clear pl_H16_0 pl_H16_lt pl_H18_0 pl_H18_lt
        refine (HSF.out X _ _ _ HX.out HY.out).mono ?_
        rintro e wc49 ⟨rfl, bb49⟩
        replace HB0 : Hid (Below w.heap.size w wc49) := HB0.out.trans (bb49.mono HB0.out.size)
        replace Hf : Hid (CellsAt wc49 (w.heap.size) 24 #[.slice ad nF cap]) := Hf.out.below bb49 Hf.out.lt
        replace HF0 : Hid (IsFl wc49.heap.size wc49 (.slice ad nF cap) F) := (HF0.out.below bb49).more bb49.size
        replace HL0 : Hid (RowOf 3 Deed.cell wc49.heap.size wc49 (.slice (some ⟨bl, offl, none⟩) l.length lcap) l) := (HL0.out.below bb49).more bb49.size
        replace HA : Hid (IsFl wc49.heap.size wc49 (.slice a1 A.length c1) A) := (HA.out.below bb49).more bb49.size
        replace H9 : Hid (CellsAt wc49 (wc22.heap.size) 24 #[.slice a1 A.length c1]) := H9.out.below bb49 H9.out.lt
        replace H16 : Hid (CellsAt wc49 (B16) 24 #[.slice a16 X.length c16]) := H16.out.below bb49 H16.out.lt
        replace HX : Hid (IsFl wc49.heap.size wc49 (.slice a16 X.length c16) X) := (HX.out.below bb49).more bb49.size
        replace H18 : Hid (CellsAt wc49 (B18) 24 #[.slice a18 X.length c18]) := H18.out.below bb49 H18.out.lt
        replace HY : Hid (IsFl wc49.heap.size wc49 (.slice a18 X.length c18) X) := (HY.out.below bb49).more bb49.size
        clear bb49
        go_wp2_with fail
        go_roundg (l.length - (j + 1))
        case measure =>
          have := HGK.out
          omega
        case rel => exact ⟨j + 1, (rfl : l.length - (j + 1) = l.length - (j + 1)), by omega, by go_num, HB0.out, Hf.out, HF0.out, HL0.out, HA.out, H9.out⟩
      · obtain rfl : j = l.length := by omega
        have hbw : Hid (chkDeeds A [⟨2, b, 0⟩] = 0 ∨ chkDeeds A [⟨2, b, 0⟩] = 3) := erase_err HGA.out b
        have HROW : Hid (∀ (W : World) n, n = W.heap.size → RowOf 3 Deed.cell (W.alloc (.cells #[.int .i64 2, .int .i64 b, .int .i64 0] 32)).heap.size (W.alloc (.cells #[.int .i64 2, .int .i64 b, .int .i64 0] 32)) (.slice (some ⟨n, 0, none⟩) 1 1) [⟨2, b, 0⟩]) := fun W n hn => by
          subst hn
          exact rowOf_cells (C := deedC) (cells := Deed.cell) (sz := 3) (fun _ => rfl) deedC_at (CellsAt.new W 32 #[.int .i64 2, .int .i64 b, .int .i64 0]) [⟨2, b, 0⟩] (show 1 ≤ 255 by decide) 1 rfl
        rcases hbw.out with hw0 | hw3
        · skip
          obtain ⟨q, rfl, hq, hrr⟩ := erase_read hw0
          have HRE : Hid (readRes (doneB A ⟨2, (q : Int), 0⟩) ((q : Int) * 128) 128 = (⟨(List.replicate 128 255).toArray⟩, 0)) := hrr
          clear hrr
          have HDW : Hid (∀ v vl W, IsFl W.heap.size W v A → RowOf 3 Deed.cell W.heap.size W vl [⟨2, (q : Int), 0⟩] → Calls Try.prog 8 #[.agg #[v], vl] W fun e w' => (∃ r, e = .returned (.tuple #[.agg #[r], .int .i64 0]) ∧ IsFl w'.heap.size w' r (doneB A ⟨2, (q : Int), 0⟩)) ∧ Below W.heap.size W w') := fun v vl W q1 q2 => by
            have := HDO.out A [⟨2, (q : Int), 0⟩] v vl W q1 q2
            rw [doRes_one hw0, hw0] at this
            exact this
          have HRD : Hid (∀ v W, IsFl W.heap.size W v (doneB A ⟨2, (q : Int), 0⟩) → Calls Try.prog 10 #[.agg #[v], .int .i64 ((q : Int) * 128), .int .i64 128] W fun e w' => e = .returned (.tuple #[.string ⟨(List.replicate 128 255).toArray⟩, .int .i64 0]) ∧ Below W.heap.size W w') := fun v W h => by
            have := flRead_any (doneB A ⟨2, (q : Int), 0⟩) v ((q : Int) * 128) 128 W h (wf_small (by omega) (by omega)) (by kernel_rfl)
            rw [HRE.out] at this
            exact this
          have HIX : Hid (∀ (k : Nat), k < 128 → ∀ (W : World), (Instr.index 9 (.string ⟨(List.replicate 128 (255 : UInt8)).toArray⟩) (.int .i64 (k : Int))).run Try.prog W = .ok (.int .u8 255) W) := ones_ix
          have HSZ : Hid ((⟨(List.replicate 128 (255 : UInt8)).toArray⟩ : ByteArray).size = 128) := (by simp [ByteArray.size] : _ = 128)
          generalize (⟨(List.replicate 128 255).toArray⟩ : ByteArray) = S at *
          clear HRE hw0 hbw
          obtain ⟨m, hm⟩ : ∃ m : Int, m = (q : Int) * 128 := ⟨_, rfl⟩
          have ew1 : wrap64 ((q : Int) * 128) = m := by unfold wrap64; omega
          have ew2 : IntKind.i64.wrap ((q : Int) * 128) = m := by rw [i64_is]; exact ew1
          rw [← hm] at HRD
          clear hm
          generalize doneB A ⟨2, (q : Int), 0⟩ = X at *
          have pl_H9_0 := H9.out.cell 0
          simp at pl_H9_0
          have pl_H9_lt := H9.out.lt
          go_wp2_with fail
          clear pl_H9_0 pl_H9_lt
          replace HB0 : Hid (Below w.heap.size w (wl.alloc (.cells #[.int .i64 2, .int .i64 (q : Int), .int .i64 0] 32))) := HB0.out.alloc HB0.out.size _
          replace Hf : Hid (CellsAt (wl.alloc (.cells #[.int .i64 2, .int .i64 (q : Int), .int .i64 0] 32)) (w.heap.size) 24 #[.slice ad nF cap]) := Hf.out.kept (World.grownBy_alloc _ _ none) (by simp)
          replace HF0 : Hid (IsFl (wl.alloc (.cells #[.int .i64 2, .int .i64 (q : Int), .int .i64 0] 32)).heap.size (wl.alloc (.cells #[.int .i64 2, .int .i64 (q : Int), .int .i64 0] 32)) (.slice ad nF cap) F) := (HF0.out.below ((Below.refl _ _).alloc (Nat.le_refl _) _)).more (by simp)
          replace HL0 : Hid (RowOf 3 Deed.cell (wl.alloc (.cells #[.int .i64 2, .int .i64 (q : Int), .int .i64 0] 32)).heap.size (wl.alloc (.cells #[.int .i64 2, .int .i64 (q : Int), .int .i64 0] 32)) (.slice la l.length lcap) l) := (HL0.out.below ((Below.refl _ _).alloc (Nat.le_refl _) _)).more (by simp)
          replace HA : Hid (IsFl (wl.alloc (.cells #[.int .i64 2, .int .i64 (q : Int), .int .i64 0] 32)).heap.size (wl.alloc (.cells #[.int .i64 2, .int .i64 (q : Int), .int .i64 0] 32)) (.slice a1 A.length c1) A) := (HA.out.below ((Below.refl _ _).alloc (Nat.le_refl _) _)).more (by simp)
          replace H9 : Hid (CellsAt (wl.alloc (.cells #[.int .i64 2, .int .i64 (q : Int), .int .i64 0] 32)) (wc22.heap.size) 24 #[.slice a1 A.length c1]) := H9.out.kept (World.grownBy_alloc _ _ none) (by simp)
          have HRw : Hid (RowOf 3 Deed.cell (wl.alloc (.cells #[.int .i64 2, .int .i64 (q : Int), .int .i64 0] 32)).heap.size (wl.alloc (.cells #[.int .i64 2, .int .i64 (q : Int), .int .i64 0] 32)) (.slice (some ⟨wl.heap.size, 0, none⟩) 1 1) [⟨2, (q : Int), 0⟩]) := HROW.out _ _ (by simp)
          generalize (wl.alloc (.cells #[.int .i64 2, .int .i64 (q : Int), .int .i64 0] 32)) = w50 at *
          refine (HDW.out _ _ _ HA.out HRw.out).mono ?_
          rintro e wc51 ⟨⟨r5, rfl, hr5⟩, bb51⟩
          replace HB0 : Hid (Below w.heap.size w wc51) := HB0.out.trans (bb51.mono HB0.out.size)
          replace Hf : Hid (CellsAt wc51 (w.heap.size) 24 #[.slice ad nF cap]) := Hf.out.below bb51 Hf.out.lt
          replace HF0 : Hid (IsFl wc51.heap.size wc51 (.slice ad nF cap) F) := (HF0.out.below bb51).more bb51.size
          replace HL0 : Hid (RowOf 3 Deed.cell wc51.heap.size wc51 (.slice la l.length lcap) l) := (HL0.out.below bb51).more bb51.size
          replace HA : Hid (IsFl wc51.heap.size wc51 (.slice a1 A.length c1) A) := (HA.out.below bb51).more bb51.size
          replace H9 : Hid (CellsAt wc51 (wc22.heap.size) 24 #[.slice a1 A.length c1]) := H9.out.below bb51 H9.out.lt
          replace HRw : Hid (RowOf 3 Deed.cell wc51.heap.size wc51 (.slice (some ⟨wl.heap.size, 0, none⟩) 1 1) [⟨2, (q : Int), 0⟩]) := (HRw.out.below bb51).more bb51.size
          clear bb51
          obtain ⟨⟨a5, c5, rfl, _, _⟩, _⟩ := id hr5
          have HX : Hid (IsFl wc51.heap.size wc51 (.slice a5 X.length c5) X) := hr5
          clear hr5
          replace HB0 : Hid (Below w.heap.size w (wc51.alloc (.cells #[.slice a5 X.length c5] 24))) := HB0.out.alloc HB0.out.size _
          replace Hf : Hid (CellsAt (wc51.alloc (.cells #[.slice a5 X.length c5] 24)) (w.heap.size) 24 #[.slice ad nF cap]) := Hf.out.kept (World.grownBy_alloc _ _ none) (by simp)
          replace HF0 : Hid (IsFl (wc51.alloc (.cells #[.slice a5 X.length c5] 24)).heap.size (wc51.alloc (.cells #[.slice a5 X.length c5] 24)) (.slice ad nF cap) F) := (HF0.out.below ((Below.refl _ _).alloc (Nat.le_refl _) _)).more (by simp)
          replace HL0 : Hid (RowOf 3 Deed.cell (wc51.alloc (.cells #[.slice a5 X.length c5] 24)).heap.size (wc51.alloc (.cells #[.slice a5 X.length c5] 24)) (.slice la l.length lcap) l) := (HL0.out.below ((Below.refl _ _).alloc (Nat.le_refl _) _)).more (by simp)
          replace HA : Hid (IsFl (wc51.alloc (.cells #[.slice a5 X.length c5] 24)).heap.size (wc51.alloc (.cells #[.slice a5 X.length c5] 24)) (.slice a1 A.length c1) A) := (HA.out.below ((Below.refl _ _).alloc (Nat.le_refl _) _)).more (by simp)
          replace H9 : Hid (CellsAt (wc51.alloc (.cells #[.slice a5 X.length c5] 24)) (wc22.heap.size) 24 #[.slice a1 A.length c1]) := H9.out.kept (World.grownBy_alloc _ _ none) (by simp)
          replace HRw : Hid (RowOf 3 Deed.cell (wc51.alloc (.cells #[.slice a5 X.length c5] 24)).heap.size (wc51.alloc (.cells #[.slice a5 X.length c5] 24)) (.slice (some ⟨wl.heap.size, 0, none⟩) 1 1) [⟨2, (q : Int), 0⟩]) := (HRw.out.below ((Below.refl _ _).alloc (Nat.le_refl _) _)).more (by simp)
          replace HX : Hid (IsFl (wc51.alloc (.cells #[.slice a5 X.length c5] 24)).heap.size (wc51.alloc (.cells #[.slice a5 X.length c5] 24)) (.slice a5 X.length c5) X) := (HX.out.below ((Below.refl _ _).alloc (Nat.le_refl _) _)).more (by simp)
          have H20 : Hid (CellsAt (wc51.alloc (.cells #[.slice a5 X.length c5] 24)) (wc51.heap.size) 24 #[.slice a5 X.length c5]) := by first | exact CellsAt.new _ _ _ | (have := CellsAt.new wc51 24 #[.slice a5 X.length c5]; simp only [World.size_alloc] at this; exact this)
          go_upto_region 19 with fail
          generalize (wc51.alloc (.cells #[.slice a5 X.length c5] 24)) = w51 at *
          have pl_H20_0 := H20.out.cell 0
          simp at pl_H20_0
          have pl_H20_lt := H20.out.lt
          go_wp2_with fail
          clear pl_H20_0 pl_H20_lt
          refine (HRD.out _ _ HX.out).mono ?_
          rintro e wc53 ⟨rfl, bb53⟩
          replace HB0 : Hid (Below w.heap.size w wc53) := HB0.out.trans (bb53.mono HB0.out.size)
          replace Hf : Hid (CellsAt wc53 (w.heap.size) 24 #[.slice ad nF cap]) := Hf.out.below bb53 Hf.out.lt
          replace HF0 : Hid (IsFl wc53.heap.size wc53 (.slice ad nF cap) F) := (HF0.out.below bb53).more bb53.size
          replace HL0 : Hid (RowOf 3 Deed.cell wc53.heap.size wc53 (.slice la l.length lcap) l) := (HL0.out.below bb53).more bb53.size
          replace HA : Hid (IsFl wc53.heap.size wc53 (.slice a1 A.length c1) A) := (HA.out.below bb53).more bb53.size
          replace H9 : Hid (CellsAt wc53 (wc22.heap.size) 24 #[.slice a1 A.length c1]) := H9.out.below bb53 H9.out.lt
          replace HRw : Hid (RowOf 3 Deed.cell wc53.heap.size wc53 (.slice (some ⟨wl.heap.size, 0, none⟩) 1 1) [⟨2, (q : Int), 0⟩]) := (HRw.out.below bb53).more bb53.size
          replace HX : Hid (IsFl wc53.heap.size wc53 (.slice a5 X.length c5) X) := (HX.out.below bb53).more bb53.size
          replace H20 : Hid (CellsAt wc53 (wc51.heap.size) 24 #[.slice a5 X.length c5]) := H20.out.below bb53 H20.out.lt
          clear bb53
          clear Hf HF0 HL0 HA H9 HRw HX H20 ew1 ew2
          have hsz := HSZ.out
          go_wp2_with fail
          go_loopg [22] 128 (fun gk i wr => ∃ (j : Nat), Hid (gk = 128 - j) ∧ j ≤ 128 ∧ i = .int .i64 j ∧ Hid (Below w.heap.size w wr))
          case atStart => exact ⟨0, (rfl : 128 = 128 - 0), Nat.zero_le _, rfl, HB0⟩
          case round =>
            obtain ⟨j, HGK, hj, rfl, qHB⟩ := hrel
            clear HB0
            by_cases hlt : j < 128
            · have hix := HIX.out j hlt
              go_wp2_with fail
              go_roundg (128 - (j + 1))
              case measure =>
                have := HGK.out
                omega
              case rel => exact ⟨j + 1, (rfl : 128 - (j + 1) = 128 - (j + 1)), by omega, by go_num, qHB.out⟩
            · obtain rfl : j = 128 := by omega
              clear HGK
              go_wp2
              go_ret
              exact ⟨rfl, qHB.out⟩
        · skip
          have HDW : Hid (∀ v vl W, IsFl W.heap.size W v A → RowOf 3 Deed.cell W.heap.size W vl [⟨2, b, 0⟩] → Calls Try.prog 8 #[.agg #[v], vl] W fun e w' => (∃ r, e = .returned (.tuple #[.agg #[r], .int .i64 3]) ∧ IsFl w'.heap.size w' r []) ∧ Below W.heap.size W w') := fun v vl W q1 q2 => by
            have := HDO.out A [⟨2, b, 0⟩] v vl W q1 q2
            rw [show doRes A [⟨2, b, 0⟩] = [] from if_neg (by rw [hw3]; decide), hw3] at this
            exact this
          clear hw3 hbw
          have pl_H9_0 := H9.out.cell 0
          simp at pl_H9_0
          have pl_H9_lt := H9.out.lt
          go_wp2_with fail
          clear pl_H9_0 pl_H9_lt
          replace HB0 : Hid (Below w.heap.size w (wl.alloc (.cells #[.int .i64 2, .int .i64 b, .int .i64 0] 32))) := HB0.out.alloc HB0.out.size _
          replace Hf : Hid (CellsAt (wl.alloc (.cells #[.int .i64 2, .int .i64 b, .int .i64 0] 32)) (w.heap.size) 24 #[.slice ad nF cap]) := Hf.out.kept (World.grownBy_alloc _ _ none) (by simp)
          replace HF0 : Hid (IsFl (wl.alloc (.cells #[.int .i64 2, .int .i64 b, .int .i64 0] 32)).heap.size (wl.alloc (.cells #[.int .i64 2, .int .i64 b, .int .i64 0] 32)) (.slice ad nF cap) F) := (HF0.out.below ((Below.refl _ _).alloc (Nat.le_refl _) _)).more (by simp)
          replace HL0 : Hid (RowOf 3 Deed.cell (wl.alloc (.cells #[.int .i64 2, .int .i64 b, .int .i64 0] 32)).heap.size (wl.alloc (.cells #[.int .i64 2, .int .i64 b, .int .i64 0] 32)) (.slice la l.length lcap) l) := (HL0.out.below ((Below.refl _ _).alloc (Nat.le_refl _) _)).more (by simp)
          replace HA : Hid (IsFl (wl.alloc (.cells #[.int .i64 2, .int .i64 b, .int .i64 0] 32)).heap.size (wl.alloc (.cells #[.int .i64 2, .int .i64 b, .int .i64 0] 32)) (.slice a1 A.length c1) A) := (HA.out.below ((Below.refl _ _).alloc (Nat.le_refl _) _)).more (by simp)
          replace H9 : Hid (CellsAt (wl.alloc (.cells #[.int .i64 2, .int .i64 b, .int .i64 0] 32)) (wc22.heap.size) 24 #[.slice a1 A.length c1]) := H9.out.kept (World.grownBy_alloc _ _ none) (by simp)
          have HRw : Hid (RowOf 3 Deed.cell (wl.alloc (.cells #[.int .i64 2, .int .i64 b, .int .i64 0] 32)).heap.size (wl.alloc (.cells #[.int .i64 2, .int .i64 b, .int .i64 0] 32)) (.slice (some ⟨wl.heap.size, 0, none⟩) 1 1) [⟨2, b, 0⟩]) := HROW.out _ _ (by simp)
          generalize (wl.alloc (.cells #[.int .i64 2, .int .i64 b, .int .i64 0] 32)) = w50 at *
          refine (HDW.out _ _ _ HA.out HRw.out).mono ?_
          rintro e wc51 ⟨⟨r5, rfl, hr5⟩, bb51⟩
          replace HB0 : Hid (Below w.heap.size w wc51) := HB0.out.trans (bb51.mono HB0.out.size)
          replace Hf : Hid (CellsAt wc51 (w.heap.size) 24 #[.slice ad nF cap]) := Hf.out.below bb51 Hf.out.lt
          replace HF0 : Hid (IsFl wc51.heap.size wc51 (.slice ad nF cap) F) := (HF0.out.below bb51).more bb51.size
          replace HL0 : Hid (RowOf 3 Deed.cell wc51.heap.size wc51 (.slice la l.length lcap) l) := (HL0.out.below bb51).more bb51.size
          replace HA : Hid (IsFl wc51.heap.size wc51 (.slice a1 A.length c1) A) := (HA.out.below bb51).more bb51.size
          replace H9 : Hid (CellsAt wc51 (wc22.heap.size) 24 #[.slice a1 A.length c1]) := H9.out.below bb51 H9.out.lt
          replace HRw : Hid (RowOf 3 Deed.cell wc51.heap.size wc51 (.slice (some ⟨wl.heap.size, 0, none⟩) 1 1) [⟨2, b, 0⟩]) := (HRw.out.below bb51).more bb51.size
          clear bb51
          obtain ⟨⟨a5, c5, rfl, _, _⟩, _⟩ := id hr5
          have HX : Hid (IsFl wc51.heap.size wc51 (.slice a5 ([] : List ByteArray).length c5) ([] : List ByteArray)) := hr5
          clear hr5
          replace HB0 : Hid (Below w.heap.size w (wc51.alloc (.cells #[.slice a5 ([] : List ByteArray).length c5] 24))) := HB0.out.alloc HB0.out.size _
          replace Hf : Hid (CellsAt (wc51.alloc (.cells #[.slice a5 ([] : List ByteArray).length c5] 24)) (w.heap.size) 24 #[.slice ad nF cap]) := Hf.out.kept (World.grownBy_alloc _ _ none) (by simp)
          replace HF0 : Hid (IsFl (wc51.alloc (.cells #[.slice a5 ([] : List ByteArray).length c5] 24)).heap.size (wc51.alloc (.cells #[.slice a5 ([] : List ByteArray).length c5] 24)) (.slice ad nF cap) F) := (HF0.out.below ((Below.refl _ _).alloc (Nat.le_refl _) _)).more (by simp)
          replace HL0 : Hid (RowOf 3 Deed.cell (wc51.alloc (.cells #[.slice a5 ([] : List ByteArray).length c5] 24)).heap.size (wc51.alloc (.cells #[.slice a5 ([] : List ByteArray).length c5] 24)) (.slice la l.length lcap) l) := (HL0.out.below ((Below.refl _ _).alloc (Nat.le_refl _) _)).more (by simp)
          replace HA : Hid (IsFl (wc51.alloc (.cells #[.slice a5 ([] : List ByteArray).length c5] 24)).heap.size (wc51.alloc (.cells #[.slice a5 ([] : List ByteArray).length c5] 24)) (.slice a1 A.length c1) A) := (HA.out.below ((Below.refl _ _).alloc (Nat.le_refl _) _)).more (by simp)
          replace H9 : Hid (CellsAt (wc51.alloc (.cells #[.slice a5 ([] : List ByteArray).length c5] 24)) (wc22.heap.size) 24 #[.slice a1 A.length c1]) := H9.out.kept (World.grownBy_alloc _ _ none) (by simp)
          replace HRw : Hid (RowOf 3 Deed.cell (wc51.alloc (.cells #[.slice a5 ([] : List ByteArray).length c5] 24)).heap.size (wc51.alloc (.cells #[.slice a5 ([] : List ByteArray).length c5] 24)) (.slice (some ⟨wl.heap.size, 0, none⟩) 1 1) [⟨2, b, 0⟩]) := (HRw.out.below ((Below.refl _ _).alloc (Nat.le_refl _) _)).more (by simp)
          replace HX : Hid (IsFl (wc51.alloc (.cells #[.slice a5 ([] : List ByteArray).length c5] 24)).heap.size (wc51.alloc (.cells #[.slice a5 ([] : List ByteArray).length c5] 24)) (.slice a5 ([] : List ByteArray).length c5) ([] : List ByteArray)) := (HX.out.below ((Below.refl _ _).alloc (Nat.le_refl _) _)).more (by simp)
          have H20 : Hid (CellsAt (wc51.alloc (.cells #[.slice a5 ([] : List ByteArray).length c5] 24)) (wc51.heap.size) 24 #[.slice a5 ([] : List ByteArray).length c5]) := by first | exact CellsAt.new _ _ _ | (have := CellsAt.new wc51 24 #[.slice a5 ([] : List ByteArray).length c5]; simp only [World.size_alloc] at this; exact this)
          have HBZ := HB0
          clear Hf HF0 HL0 HA H9 HRw HX H20 HB0
          go_wp2
          go_ret
          exact ⟨rfl, HBZ.out⟩

end Go.Proofs.Ytnomapbiklfciaf.flashErased

/- Arguments that came in: texts, numbers, rows, a patch. -/
namespace Go.Proofs.Ytnomapbiklfciaf
open Go.ChangeShapes Go.WideShapes Go.ChangeAt Go.RowKit Go.PlainAid Go.Deep

set_option maxRecDepth 100000

theorem list7 {α : Type} {l : List α} (h : l.length = 7) : ∃ a b c d e f g, l = [a, b, c, d, e, f, g] := by
  match l, h with
  | [a, b, c, d, e, f, g], _ => exact ⟨a, b, c, d, e, f, g, rfl⟩
theorem list4 {α : Type} {l : List α} (h : l.length = 4) : ∃ a b c d, l = [a, b, c, d] := by
  match l, h with
  | [a, b, c, d], _ => exact ⟨a, b, c, d, rfl⟩
theorem list2 {α : Type} {l : List α} (h : l.length = 2) : ∃ a b, l = [a, b] := by
  match l, h with
  | [a, b], _ => exact ⟨a, b, rfl⟩

section
variable {H : Type} {enc : TypeId × Value → H} {W : World} {spare : Nat → Bool} {held : Bool}

theorem row_of_trod {α : Type} [Inhabited α] {t e : TypeId} {sz fuel : Nat} {c : Value} {y : DataW H × List MemPlace} {cells : α → Nat → Value} {good : α → Prop} (ht : Try.prog.underlying t = some (.slice e)) (hsz : Try.prog.cellsOf e = sz) (h0 : 0 < sz)
    (conv : ∀ n cs z, cs.length = sz → DataW.trod enc Try.prog W 0 spare held n e cs = some z → ∃ x : α, (∀ i, i < sz → cs[i]? = some (cells x i)) ∧ good x)
    (h : DataW.trod enc Try.prog W 0 spare held fuel t [c] = some y) : ∃ l : List α, RowOf sz cells W.heap.size W c l ∧ ∀ x ∈ l, good x := by
  rcases open_slice ht h with ⟨hc, _⟩ | ⟨a, len, cap, m, n, D, Pl, hc, _, hl, hm, hmm, _, hx⟩
  · injection hc with hc
    subst hc
    exact ⟨[], ⟨none, 0, rfl, Nat.zero_le _, .inl rfl⟩, by simp⟩
  · injection hc with hc
    subst hc
    rw [hsz] at hx
    have hle : len ≤ m := by rw [hmm]; split <;> omega
    obtain ⟨X, hX⟩ := choose_lt (α := α) (n := len) (p := fun i x => (∀ j, j < sz → W.cell? (a.add (i * sz + j)) = some (cells x j)) ∧ good x) (fun i hi => by
      obtain ⟨cs', h1, h2⟩ := hx i (by omega)
      obtain ⟨_, hlen, hcell⟩ := World.cells?_some h1
      obtain ⟨x, hx1, hx2⟩ := conv n cs' _ hlen h2
      refine ⟨x, fun j hj => ?_, hx2⟩
      have h3 := hcell j hj
      rw [hx1 j hj] at h3
      have hadd : (a.add (i * sz)).add j = a.add (i * sz + j) ∨ W.cell? ((a.add (i * sz)).add j) = W.cell? (a.add (i * sz + j)) := by
        unfold Addr.add
        by_cases e1 : i * sz = 0
        · rw [if_pos e1, e1, Nat.zero_add]; exact .inl rfl
        · rw [if_neg e1]
          by_cases e2 : j = 0
          · rw [if_pos e2, e2, Nat.add_zero, if_neg e1]; exact .inl rfl
          · rw [if_neg e2, if_neg (by omega), Nat.add_assoc]; exact .inl rfl
      rcases hadd with hadd | hadd
      · rw [← hadd]; exact h3
      · rw [← hadd]; exact h3)
    refine ⟨(List.range len).map X, ⟨some a, cap, by simp, by simp; unfold maxLen at hm; omega, ?_⟩, ?_⟩
    · by_cases hz : len = 0
      · left
        subst hz
        rfl
      · right
        have hc0 := (hX 0 (by omega)).1 0 h0
        rw [Nat.zero_mul, Nat.zero_add] at hc0
        obtain ⟨b, off, spot⟩ := a
        have hsp : spot = none := by simpa [Addr.add] using World.cell?_spot hc0
        subst hsp
        refine ⟨b, off, rfl, ?_, fun j x hj i hi => ?_⟩
        · have := World.block_lt_of_cell? W _ hc0
          simpa [Addr.add] using this
        · have hjl : j < len := by
            have := (List.getElem?_eq_some_iff.1 hj).1
            simpa using this
          obtain rfl : X j = x := by
            rw [List.getElem?_map, List.getElem?_range hjl] at hj
            simpa using hj
          have h4 := (hX j hjl).1 i hi
          unfold Addr.add at h4
          by_cases e0 : j * sz + i = 0
          · rw [if_pos e0] at h4
            rw [Nat.add_assoc, e0]
            exact h4
          · rw [if_neg e0] at h4
            rw [Nat.add_assoc]
            exact h4
    · intro x hx
      obtain ⟨i, hi, rfl⟩ := List.mem_map.1 hx
      exact (hX i (by simpa using hi)).2

theorem str_of_trod {n : Nat} {c : Value} {y : DataW H × List MemPlace} (h : DataW.trod enc Try.prog W 0 spare held n 9 [c] = some y) : ∃ s : ByteArray, c = .string s ∧ s.size ≤ 9223372036854775807 := by
  obtain ⟨s, hc, _, hs⟩ := DataW.trod_string Try.underlying9 h
  injection hc with hc
  exact ⟨s, hc, hs⟩
theorem int_of_trod {n : Nat} {c : Value} {y : DataW H × List MemPlace} (h : DataW.trod enc Try.prog W 0 spare held n 3 [c] = some y) : ∃ k : Int, c = .int .i64 k := by
  obtain ⟨k, hc, _, _⟩ := DataW.trod_int Try.underlying3 h
  injection hc with hc
  exact ⟨k, hc⟩

end

end Go.Proofs.Ytnomapbiklfciaf

/- Flashes, deeds, rows of texts and of numbers that came in. -/
namespace Go.Proofs.Ytnomapbiklfciaf
open Go.ChangeShapes Go.WideShapes Go.ChangeAt Go.RowKit Go.PlainAid Go.Deep

set_option maxRecDepth 100000

theorem list3f {α : Type} {l : List α} (h : l.length = 3) : ∃ a b c, l = [a, b, c] := by
  match l, h with
  | [a, b, c], _ => exact ⟨a, b, c, rfl⟩
theorem list1f {α : Type} {l : List α} (h : l.length = 1) : ∃ a, l = [a] := by
  match l, h with
  | [a], _ => exact ⟨a, rfl⟩

section
variable {H : Type} {enc : TypeId × Value → H} {W : World} {spare : Nat → Bool} {held : Bool}

theorem cap_of_trod {t e : TypeId} {fuel : Nat} {c : Value} {y : DataW H × List MemPlace} (ht : Try.prog.underlying t = some (.slice e)) (h : DataW.trod enc Try.prog W 0 spare held fuel t [c] = some y) : CapIn c := by
  intro a' n' c' hv
  rcases open_slice ht h with ⟨hc, _⟩ | ⟨a, len, cap, m, n, D, Pl, hc, _, hl, hm, hmm, _, hx⟩
  · injection hc with hc
    rw [hc] at hv
    injection hv
    omega
  · injection hc with hc
    rw [hc] at hv
    injection hv
    omega

theorem txt_of_trod (n : Nat) (cs : List Value) (z : DataW H × List MemPlace) (hl : cs.length = 1) (h : DataW.trod enc Try.prog W 0 spare held n 9 cs = some z) : ∃ x : ByteArray, (∀ i, i < 1 → cs[i]? = some (strCell x i)) ∧ x.size ≤ 9223372036854775807 := by
  obtain ⟨c, rfl⟩ := list1f hl
  obtain ⟨s, rfl, hs⟩ := str_of_trod h
  refine ⟨s, fun i hi => ?_, hs⟩
  obtain rfl : i = 0 := by omega
  rfl
theorem num_of_trod (n : Nat) (cs : List Value) (z : DataW H × List MemPlace) (hl : cs.length = 1) (h : DataW.trod enc Try.prog W 0 spare held n 3 cs = some z) : ∃ x : Int, (∀ i, i < 1 → cs[i]? = some (intCell x i)) ∧ (Lit.int .i64 x).wf = true := by
  obtain ⟨c, rfl⟩ := list1f hl
  obtain ⟨k, hc, hz, hk⟩ := DataW.trod_int Try.underlying3 h
  injection hc with hc
  subst hc
  refine ⟨k, fun i hi => ?_, ?_⟩
  · obtain rfl : i = 0 := by omega
    rfl
  · first | exact hk | simpa [Lit.wf] using hk
theorem deed_of_trod (n : Nat) (cs : List Value) (z : DataW H × List MemPlace) (hl : cs.length = 3) (h : DataW.trod enc Try.prog W 0 spare held n 32 cs = some z) : ∃ x : Deed, (∀ i, i < 3 → cs[i]? = some (Deed.cell x i)) ∧ True := by
  obtain ⟨xs, m, _, _, _, hlen, hf⟩ := DataW.trod_struct Try.underlying32 h
  obtain ⟨x0, x1, x2, rfl⟩ := list3f hlen
  obtain ⟨c0, c1, c2, rfl⟩ := list3f hl
  obtain ⟨a, rfl⟩ := int_of_trod (hf 0 _ rfl)
  obtain ⟨b, rfl⟩ := int_of_trod (hf 1 _ rfl)
  obtain ⟨k, rfl⟩ := int_of_trod (hf 2 _ rfl)
  refine ⟨⟨a, b, k⟩, fun i hi => ?_, trivial⟩
  have : i = 0 ∨ i = 1 ∨ i = 2 := by omega
  rcases this with rfl | rfl | rfl <;> rfl

theorem open_flash {v : Value} {d : DataW H} {ps : List MemPlace} {base : Nat} (hv : Value.okWide Try.prog W .any base 24 v) (h : DataW.Trod enc Try.prog W 0 spare held 24 v d ps) : ∃ (F : List ByteArray) (c : Value), v = .agg #[c] ∧ IsFl W.heap.size W c F := by
  obtain ⟨cs, rfl, hcs⟩ := okWide_struct Try.underlying24 hv
  obtain ⟨fuel, hf⟩ := h
  obtain ⟨xs, m, _, _, hl, hlen, hf⟩ := DataW.trod_struct Try.underlying24 hf
  have hc1 : Try.prog.cellsOf 24 = 1 := by kernel_rfl
  obtain ⟨x0, rfl⟩ := list1f hlen
  rw [hc1] at hl
  obtain ⟨c0, hcl⟩ := list1f hl
  have hcs' : cs.toList = [c0] := hcl
  have hcA : cs = #[c0] := by rw [← Array.toArray_toList (xs := cs), hcs']
  subst hcA
  have f0 := hf 0 _ rfl
  have _ : Inhabited ByteArray := ⟨⟨#[]⟩⟩
  obtain ⟨F, hF, _⟩ := row_of_trod (cells := strCell) (good := fun x => x.size ≤ 9223372036854775807) Try.underlying22 (sz := 1) (by kernel_rfl) (by decide) txt_of_trod f0
  exact ⟨F, c0, rfl, hF, cap_of_trod Try.underlying22 f0⟩

theorem open_deed {v : Value} {d : DataW H} {ps : List MemPlace} {base : Nat} (hv : Value.okWide Try.prog W .any base 32 v) (h : DataW.Trod enc Try.prog W 0 spare held 32 v d ps) : ∃ D : Deed, v = D.value := by
  obtain ⟨cs, rfl, hcs⟩ := okWide_struct Try.underlying32 hv
  obtain ⟨fuel, hf⟩ := h
  obtain ⟨xs, m, _, _, hl, hlen, hf⟩ := DataW.trod_struct Try.underlying32 hf
  have hc3 : Try.prog.cellsOf 32 = 3 := by kernel_rfl
  obtain ⟨x0, x1, x2, rfl⟩ := list3f hlen
  rw [hc3] at hl
  obtain ⟨c0, c1, c2, hcl⟩ := list3f hl
  have hcs' : cs.toList = [c0, c1, c2] := hcl
  have hcA : cs = #[c0, c1, c2] := by rw [← Array.toArray_toList (xs := cs), hcs']
  subst hcA
  obtain ⟨a, rfl⟩ := int_of_trod (hf 0 _ rfl)
  obtain ⟨b, rfl⟩ := int_of_trod (hf 1 _ rfl)
  obtain ⟨k, rfl⟩ := int_of_trod (hf 2 _ rfl)
  exact ⟨⟨a, b, k⟩, rfl⟩

theorem open_deeds {v : Value} {d : DataW H} {ps : List MemPlace} {base : Nat} (hv : Value.okWide Try.prog W .any base 25 v) (h : DataW.Trod enc Try.prog W 0 spare held 25 v d ps) : ∃ l : List Deed, RowOf 3 Deed.cell W.heap.size W v l ∧ CapIn v := by
  obtain ⟨a, ln, cp, rfl⟩ := okWide_slice Try.underlying25 hv
  obtain ⟨fuel, hf⟩ := h
  have _ : Inhabited Deed := ⟨⟨0, 0, 0⟩⟩
  obtain ⟨l, hL, _⟩ := row_of_trod (α := Deed) (cells := Deed.cell) (good := fun _ => True) (c := .slice a ln cp) Try.underlying25 (sz := 3) (by kernel_rfl) (by decide) deed_of_trod hf
  exact ⟨l, hL, cap_of_trod (c := .slice a ln cp) Try.underlying25 hf⟩

theorem open_texts {v : Value} {d : DataW H} {ps : List MemPlace} {base : Nat} (hv : Value.okWide Try.prog W .any base 22 v) (h : DataW.Trod enc Try.prog W 0 spare held 22 v d ps) : ∃ l : List ByteArray, RowOf 1 strCell W.heap.size W v l ∧ (∀ x ∈ l, x.size ≤ 9223372036854775807) ∧ CapIn v := by
  obtain ⟨a, ln, cp, rfl⟩ := okWide_slice Try.underlying22 hv
  obtain ⟨fuel, hf⟩ := h
  have _ : Inhabited ByteArray := ⟨⟨#[]⟩⟩
  obtain ⟨l, hL, hg⟩ := row_of_trod (α := ByteArray) (cells := strCell) (good := fun x => x.size ≤ 9223372036854775807) (c := .slice a ln cp) Try.underlying22 (sz := 1) (by kernel_rfl) (by decide) txt_of_trod hf
  exact ⟨l, hL, hg, cap_of_trod (c := .slice a ln cp) Try.underlying22 hf⟩

end

end Go.Proofs.Ytnomapbiklfciaf
