/- Texts that are laid together. -/
import Derived.Test.YtlpnfbpgnfappaaGreatMrgJ
import Derived.Lib.Bytealg
import Derived.Test.YtlpnfbpgnfappaaGreatMrgH
import Derived.Test.YtlpnfbpgnfappaaGreatMrgF
import Derived.Lib.Repeat

/- slices.SortFunc at modules: strings.Compare, math/bits.Len, the function that is handed in, the sort itself. -/
namespace Go.Proofs.YtlpnfbpgnfappaaGreat
open Go.RowKit Go.PlainAid
open Go.Sort (grow alloc_eq_grow grow_grow putRow putRowK mapBlock)

set_option maxRecDepth 100000

theorem cmpB_neg : ∀ a b : List UInt8, Lib.compareBytes a b < 0 ↔ a < b
  | [], [] => by simp [Lib.compareBytes]
  | [], _ :: _ => by simp [Lib.compareBytes]
  | _ :: _, [] => by simp [Lib.compareBytes]
  | x :: a, y :: b => by
    unfold Lib.compareBytes
    rw [List.cons_lt_cons_iff]
    by_cases h : x < y
    · rw [if_pos h]
      exact ⟨fun _ => .inl h, fun _ => by decide⟩
    · rw [if_neg h]
      by_cases g : y < x
      · rw [if_pos g]
        constructor
        · intro h1; exact absurd h1 (by decide)
        · rintro (h1 | ⟨rfl, _⟩)
          · exact absurd h1 h
          · exact absurd g h
      · rw [if_neg g, cmpB_neg a b]
        have e : x = y := UInt8.le_antisymm (UInt8.not_lt.1 g) (UInt8.not_lt.1 h)
        constructor
        · exact fun h1 => .inr ⟨e, h1⟩
        · rintro (h1 | ⟨_, h1⟩)
          · exact absurd h1 h
          · exact h1

set_option maxHeartbeats 1000000 in
theorem compareString_any (a b : ByteArray) (w : World) :
    Calls Tryz.prog 176 #[.string a, .string b] w fun e w' => e = .returned (.int .i64 (Lib.compareBytes a.data.toList b.data.toList)) ∧ w' = w := by
  go_enter Tryz.func176, Tryz.ntmps176
  go_wp2
  rw [run_callFunc_extern Tryz.func200 (by kernel_rfl) (by kernel_rfl) (by kernel_rfl) (e := Extern.BytealgCompare.compare) (by kernel_rfl), Lib.run_compareString]
  simp only [Result.andThen]
  rw [Oper.upon_value]
  go_wp2
  go_ret
  exact ⟨rfl, rfl⟩

set_option maxHeartbeats 1000000 in
theorem compare_any (a b : ByteArray) (w : World) :
    Calls Tryz.prog 149 #[.string a, .string b] w fun e w' => e = .returned (.int .i64 (Lib.compareBytes a.data.toList b.data.toList)) ∧ w' = w := by
  have HC := compareString_any a b w
  generalize Lib.compareBytes a.data.toList b.data.toList = r at *
  go_enter Tryz.func149, Tryz.ntmps149
  go_wp2_with fail
  refine HC.mono ?_
  rintro e w2 ⟨rfl, rfl⟩
  clear HC
  go_wp2
  go_ret
  exact ⟨rfl, rfl⟩

set_option maxHeartbeats 4000000 in
theorem bitsLen_any (n : Nat) (W : World) (h : n ≤ 12) : Calls Tryz.prog 175 #[.int .u64 n] W fun e w' => (∃ l : Int, e = .returned (.int .i64 l)) ∧ w' = W := by
  have hn : n = 0 ∨ n = 1 ∨ n = 2 ∨ n = 3 ∨ n = 4 ∨ n = 5 ∨ n = 6 ∨ n = 7 ∨ n = 8 ∨ n = 9 ∨ n = 10 ∨ n = 11 ∨ n = 12 := by omega
  rcases hn with rfl | rfl | rfl | rfl | rfl | rfl | rfl | rfl | rfl | rfl | rfl | rfl | rfl
  all_goals
    go_enter Tryz.func175, Tryz.ntmps175
    go_wp2
    go_ret
    exact ⟨⟨_, rfl⟩, rfl⟩

/-- A slice's value; another one is none. -/
def slV : Value → Value
  | .slice a n c => .slice a n c
  | _ => .slice none 0 0
theorem slV_form (v : Value) : ∃ a n c, slV v = .slice a n c := by
  cases v <;> exact ⟨_, _, _, rfl⟩
def modE (x : PV) : List Value := [.string x.mod.name, .int .i64 x.mod.major, .int .i64 x.mod.minor, .string x.mod.text, slV x.ve, slV x.vi, slV x.vp]
theorem modE_one (x : PV) : ∀ v ∈ modE x, v.oneCell' = true := by
  intro v hv
  unfold modE at hv
  obtain ⟨a, n, c, h1⟩ := slV_form x.ve
  obtain ⟨a2, n2, c2, h2⟩ := slV_form x.vi
  obtain ⟨a3, n3, c3, h3⟩ := slV_form x.vp
  rw [h1, h2, h3] at hv
  simp at hv
  rcases hv with rfl | rfl | rfl | rfl | rfl | rfl | rfl <;> rfl
theorem modE_at {n₀ : Nat} {W : World} {x : PV} (h : PlcAt n₀ W x) (i : Nat) (hi : i < 7) : (modE x)[i]? = some (PV.cell x i) := by
  obtain ⟨⟨pe, ke, e4, _⟩, ⟨pi, ki, e5, _⟩, ⟨pp, kp, e6, _⟩⟩ := h
  have : i = 0 ∨ i = 1 ∨ i = 2 ∨ i = 3 ∨ i = 4 ∨ i = 5 ∨ i = 6 := by omega
  unfold modE
  rw [e4, e5, e6]
  rcases this with rfl | rfl | rfl | rfl | rfl | rfl | rfl <;> first | rfl | exact congrArg some e4.symm | exact congrArg some e5.symm | exact congrArg some e6.symm

set_option maxHeartbeats 2000000 in
theorem rising1_any (x y : PV) (W : World) : Calls Tryz.prog 148 #[.agg (modE x).toArray, .agg (modE y).toArray] W fun e w' => e = .returned (.int .i64 (Lib.compareBytes x.mod.name.data.toList y.mod.name.data.toList)) ∧ ∃ q os', w' = grow (W.drewN q) os' := by
  obtain ⟨a1, n1, c1, h1⟩ := slV_form x.ve
  obtain ⟨a2, n2, c2, h2⟩ := slV_form x.vi
  obtain ⟨a3, n3, c3, h3⟩ := slV_form x.vp
  obtain ⟨a4, n4, c4, h4⟩ := slV_form y.ve
  obtain ⟨a5, n5, c5, h5⟩ := slV_form y.vi
  obtain ⟨a6, n6, c6, h6⟩ := slV_form y.vp
  unfold modE
  rw [h1, h2, h3, h4, h5, h6]
  clear h1 h2 h3 h4 h5 h6
  obtain ⟨⟨N, ma, mi, T, es, is, ps⟩, ve, vi, vp, fi⟩ := x
  obtain ⟨⟨N', ma', mi', T', es', is', ps'⟩, ve', vi', vp', fi'⟩ := y
  dsimp only
  have HC : Hid (∀ W, Calls Tryz.prog 149 #[.string N, .string N'] W fun e w' => e = .returned (.int .i64 (Lib.compareBytes N.data.toList N'.data.toList)) ∧ w' = W) := fun W => compare_any N N' W
  generalize Lib.compareBytes N.data.toList N'.data.toList = r at *
  go_enter Tryz.func148, Tryz.ntmps148
  go_wp2_with fail
  refine (HC.out _).mono ?_
  rintro e w2 ⟨rfl, rfl⟩
  clear HC
  go_wp2
  go_ret
  exact ⟨rfl, 0, _, by rw [alloc_eq_grow, alloc_eq_grow, grow_grow]; rfl⟩

theorem cmp_swo : Go.Sort.SWO (ltOf fun x y : PV => Lib.compareBytes x.mod.name.data.toList y.mod.name.data.toList) := by
  have h : ∀ x y : PV, ltOf (fun x y : PV => Lib.compareBytes x.mod.name.data.toList y.mod.name.data.toList) x y = true ↔ x.mod.name.data.toList < y.mod.name.data.toList := fun x y => by
    unfold ltOf
    rw [decide_eq_true_iff, cmpB_neg]
  have hf : ∀ x y : PV, ltOf (fun x y : PV => Lib.compareBytes x.mod.name.data.toList y.mod.name.data.toList) x y = false ↔ ¬ x.mod.name.data.toList < y.mod.name.data.toList := fun x y => by
    rw [← h, Bool.not_eq_true]
  refine ⟨fun x => (hf x x).2 (List.lt_irrefl _), fun x y z h1 h2 => (h x z).2 (List.lt_trans ((h x y).1 h1) ((h y z).1 h2)), fun x y z h1 h2 => (hf x z).2 ?_⟩
  exact List.not_lt.2 (List.le_trans (List.not_lt.1 ((hf y z).1 h2)) (List.not_lt.1 ((hf x y).1 h1)))

theorem below_sortWorld {α : Type} [Inhabited α] (enc : α → List Value) (k : Nat) (w : World) (blk off m : Nat) (d : Array α) (os : Array Obj) (hb : blk < w.heap.size) : Below blk w (sortWorldK enc k w blk off m d os) := by
  unfold sortWorldK putRowK putRow mapBlock Go.Sort.ahead grow
  refine ⟨rfl, rfl, rfl, by simp, fun i hi => ?_⟩
  dsimp only
  rw [Array.getElem?_append_left (by rw [Array.size_modify]; omega), Array.getElem?_modify, if_neg (by omega)]

end Go.Proofs.YtlpnfbpgnfappaaGreat

/- The contract of graph.rising. -/
namespace Go.Proofs.YtlpnfbpgnfappaaGreat
open Go.RowKit Go.PlainAid

set_option maxRecDepth 100000

set_option maxHeartbeats 2000000 in
theorem insNone_any (p : Option Addr) (cap : Nat) (fv : Value) (w : World) :
    Calls Tryz.prog 190 #[.slice p 0 cap, .int .i64 0, .int .i64 0, fv] w fun e w' => e = .returned (.tuple #[]) ∧ w' = w := by
  go_enter Tryz.func190, Tryz.ntmps190
  go_wp2
  refine wp_loop_rounds 1 ?_
  rw [rounds_succ]
  go_wp2
  go_end0
  exact ⟨rfl, rfl⟩
set_option maxHeartbeats 2000000 in
theorem pdqNone_any (p : Option Addr) (cap : Nat) (lim : Int) (fv : Value) (w : World) :
    Calls Tryz.prog 174 #[.slice p 0 cap, .int .i64 0, .int .i64 0, .int .i64 lim, fv] w fun e w' => e = .returned (.tuple #[]) ∧ w' = w := by
  have hi := fun W => insNone_any p cap fv W
  go_enter Tryz.func174, Tryz.ntmps174
  go_wp2
  refine wp_loop_rounds 1 ?_
  rw [rounds_succ]
  go_wp2_with (go_at_call 190; refine (hi _).mono ?_; rintro e w' ⟨rfl, rfl⟩)
  (try simp only [Exit.inBlock, Exit.then]); refine bodyPost_ret (results_none rfl _ _ _) rfl ?_
  exact ⟨rfl, rfl⟩
set_option maxHeartbeats 2000000 in
theorem sortNone_any (p : Option Addr) (cap : Nat) (fv : Value) (w : World) :
    Calls Tryz.prog 147 #[.slice p 0 cap, fv] w fun e w' => e = .returned (.tuple #[]) ∧ w' = w := by
  have hi := fun lim W => pdqNone_any p cap lim fv W
  have hl := fun W => bitsLen_any 0 W (by omega)
  go_enter Tryz.func147, Tryz.ntmps147
  go_wp2_with (first | (go_at_call 175; refine (hl _).mono ?_; rintro e w' ⟨⟨q, rfl⟩, rfl⟩) | (go_at_call 174; refine (hi _ _).mono ?_; rintro e w' ⟨rfl, rfl⟩))
  go_end0
  exact ⟨rfl, rfl⟩

def pvZero : PV := ⟨⟨⟨#[]⟩, 0, 0, ⟨#[]⟩, [], [], []⟩, .slice none 0 0, .slice none 0 0, .slice none 0 0, 0⟩
def UpName (a b : PV) : Prop := ¬ b.mod.name.data.toList < a.mod.name.data.toList

theorem sortMods_any (l : List PV) (g cap : Nat) (w : World) (h8 : l.length ≤ 8) (hg : g < w.heap.size)
    (hc : ∀ (j : Nat) (x : PV), l[j]? = some x → ∀ i, i < 7 → w.cell? ⟨g, 0 + j * 7 + i, none⟩ = (modE x)[i]? ∧ w.frozen? ⟨g, 0 + j * 7 + i, none⟩ = false) :
    Calls Tryz.prog 147 #[.slice (some ⟨g, 0, none⟩) l.length cap, .func (.func 148) #[] #[]] w fun e w' => e = .returned (.tuple #[]) ∧ ∃ rs : List PV, rs.Perm l ∧ rs.Pairwise UpName ∧ Below g w w' ∧ ∀ (j : Nat) (x : PV), rs[j]? = some x → ∀ i, i < 7 → w'.cell? ⟨g, 0 + j * 7 + i, none⟩ = (modE x)[i]? := by
  have inh : Inhabited PV := ⟨pvZero⟩
  have hl7 : ∀ x : PV, (modE x).length = 7 := fun _ => rfl
  have at_ : ∀ (x : PV) (i : Nat), i < 7 → (modE x)[i]? = some (modE x)[i]! := fun x i hi => by
    rw [List.getElem?_eq_getElem (by rw [hl7]; exact hi), List.getElem!_eq_getElem?_getD, List.getElem?_eq_getElem (by rw [hl7]; exact hi)]
    rfl
  have arr : ∀ (a : Array PV) (j : Nat), j < a.size → a.toList[j]? = some a[j]! := fun a j hj => by
    rw [getElem!_pos a j hj, List.getElem?_eq_getElem (by simpa using hj)]
    simp
  have hH : Go.Sort.HoldsK modE 7 w g 0 l.toArray := by
    intro t ht
    rw [Go.Sort.size_flatK] at ht
    rw [Go.Sort.get_flatK _ _ _ _ ht]
    have hs : l.toArray.size = l.length := by simp
    have hq : t / 7 < l.length := by rw [hs] at ht; omega
    have hx := arr l.toArray (t / 7) (by rw [hs]; exact hq)
    rw [List.toList_toArray] at hx
    have h1 := hc (t / 7) _ hx (t % 7) (by omega)
    rw [show 0 + t / 7 * 7 + t % 7 = 0 + t by omega, at_ _ _ (by omega)] at h1
    exact h1
  have hcon := AnyQ.slices_SortFunc_small_sorted sortFL 7 Tryz.isAgg31 Tryz.sizeOf31 modE hl7 modE_one (fun x y => Lib.compareBytes x.mod.name.data.toList y.mod.name.data.toList) 148 #[] cmp_swo g 0 cap l.toArray w (enters_of Tryz.func148 (by kernel_rfl) rfl) (fun _ _ _ _ x y => rising1_any x y _) hH hg (by simp; omega) (fun n W hn => bitsLen_any n W hn)
  refine Calls.mono hcon ?_
  rintro e w' ⟨rfl, d', n, os, hp, hs, rfl⟩
  have hsz : d'.size = l.length := by rw [hp.1]; simp
  have hperm : d'.toList.Perm l := by
    have h1 := hp.2.2
    have e1 : l.toArray.size = d'.size := by rw [hsz]; simp
    rw [Array.extract_size, e1, Array.extract_size, List.toList_toArray] at h1
    exact h1
  refine ⟨rfl, d'.toList, hperm, ?_, below_sortWorld _ _ _ _ _ _ _ _ hg, ?_⟩
  · rw [List.pairwise_iff_getElem]
    intro i j hi hj hij
    have h1 := hs i j (Nat.zero_le _) hij (by simp at hj ⊢; omega)
    have hi' : i < d'.size := by simpa using hi
    have hj' : j < d'.size := by simpa using hj
    rw [getElem!_pos d' i hi', getElem!_pos d' j hj'] at h1
    unfold ltOf at h1
    rw [decide_eq_false_iff_not, cmpB_neg] at h1
    simp only [UpName, Array.getElem_toList]
    exact h1
  · intro j x hx i hi
    have hj : j < d'.size := by
      have := (List.getElem?_eq_some_iff.1 hx).1
      simpa using this
    have hx2 := arr d' j hj
    rw [hx] at hx2
    injection hx2 with hx2
    subst hx2
    rw [at_ _ _ hi]
    exact (Go.Sort.HoldsK.cell (holdsK_sortWorldK_c modE 7 w g 0 l.toArray d' n os hH hg (by rw [hsz]; simp)) hj hi).1

theorem infoMod : (Tryz.prog.info? 31).map (fun i => (i.zero, i.size, i.bytes)) = some (some (.agg #[.string ⟨#[]⟩, .int .i64 0, .int .i64 0, .string ⟨#[]⟩, .slice none 0 0, .slice none 0 0, .slice none 0 0]), 7, 120) := by kernel_rfl
theorem infoMod_parts : ∃ i, Tryz.prog.info? 31 = some i ∧ i.zero = some (.agg #[.string ⟨#[]⟩, .int .i64 0, .int .i64 0, .string ⟨#[]⟩, .slice none 0 0, .slice none 0 0, .slice none 0 0]) ∧ i.size = 7 ∧ i.bytes = 120 := by
  have h := infoMod
  cases hi : Tryz.prog.info? 31 with
  | none => rw [hi] at h; cases h
  | some i =>
    rw [hi] at h
    simp at h
    exact ⟨i, rfl, h.1, h.2.1, h.2.2⟩

end Go.Proofs.YtlpnfbpgnfappaaGreat

/- The contract of graph.rising. -/
namespace Go.Proofs.YtlpnfbpgnfappaaGreat
open Go.RowKit Go.PlainAid

set_option maxRecDepth 100000

theorem addr_add (g j : Nat) : (⟨g, 0, none⟩ : Addr).add j = ⟨g, j, none⟩ := by unfold Addr.add; split <;> simp_all

set_option maxHeartbeats 4000000 in
theorem rising_any (l : List PV) (v : Value) (w : World) (hrow : IsPlcs w.heap.size w v l) (h8 : l.length ≤ 8) :
    Calls Tryz.prog 90 #[v] w fun e w' => (∃ r rs, e = .returned r ∧ RowOf 7 PV.cell w'.heap.size w' r rs ∧ rs.Perm l ∧ rs.Pairwise UpName) ∧ Below w.heap.size w w' := by
  have hat := hrow.2
  obtain ⟨⟨a, cap, rfl, hmax, hrow⟩, _⟩ := hrow
  obtain ⟨ii, hii, hz0, hz1, hz2⟩ := infoMod_parts
  go_enter Tryz.func90, Tryz.ntmps90
  go_wp2_with fail
  go_loopw [3, 8] (fun f i wr => ∃ (k : Nat), k ≤ l.length ∧ i = .int .i64 k ∧ wr.ownsRow w.heap.size 31 7 f k ((l.take k).flatMap modE) ∧ Below w.heap.size w wr) (fun _ i _ => l.length - (intOf i).toNat)
  case atStart => exact ⟨0, Nat.zero_le _, rfl, ⟨rfl, .inl ⟨rfl, rfl⟩⟩, Below.refl _ _⟩
  case round =>
    obtain ⟨k, hk, rfl, hown, B⟩ := hrel
    by_cases hlt : k < l.length
    · obtain ⟨av, kv, rfl⟩ := own_form hown
      obtain ⟨x, hx⟩ : ∃ x, l[k]? = some x := ⟨_, List.getElem?_eq_getElem hlt⟩
      rcases hrow with h | ⟨b, off, rfl, hbn, hcells⟩
      · subst h; simp at hlt
      have htk : l.take (k + 1) = l.take k ++ [x] := by rw [List.take_add_one, hx]; rfl
      have HROW : Hid (∀ (W : World) (u : Value), W.ownsRow w.heap.size 31 7 u (k + 1) ((l.take k).flatMap modE ++ modE x) → W.ownsRow w.heap.size 31 7 u (k + 1) ((l.take (k + 1)).flatMap modE)) := fun W u h => by
        rw [htk, List.flatMap_append]
        simpa using h
      obtain ⟨⟨pe, ke, e4, _⟩, ⟨pi, ki, e5, _⟩, ⟨pp, kp, e6, _⟩⟩ := hat x (List.mem_of_getElem? hx)
      obtain ⟨⟨N, ma, mi, T, es, is, ps⟩, ve, vi, vp, fi⟩ := x
      dsimp only at e4 e5 e6
      subst e4 e5 e6
      have c0 := (B.cell (p := ⟨b, off + k * 8 + 0, none⟩) hbn).trans (hcells k _ hx 0 (by omega))
      have c1 := (B.cell (p := ⟨b, off + k * 8 + 1, none⟩) hbn).trans (hcells k _ hx 1 (by omega))
      have c2 := (B.cell (p := ⟨b, off + k * 8 + 2, none⟩) hbn).trans (hcells k _ hx 2 (by omega))
      have c3 := (B.cell (p := ⟨b, off + k * 8 + 3, none⟩) hbn).trans (hcells k _ hx 3 (by omega))
      have c4 := (B.cell (p := ⟨b, off + k * 8 + 4, none⟩) hbn).trans (hcells k _ hx 4 (by omega))
      have c5 := (B.cell (p := ⟨b, off + k * 8 + 5, none⟩) hbn).trans (hcells k _ hx 5 (by omega))
      have c6 := (B.cell (p := ⟨b, off + k * 8 + 6, none⟩) hbn).trans (hcells k _ hx 6 (by omega))
      have c7 := (B.cell (p := ⟨b, off + k * 8 + 7, none⟩) hbn).trans (hcells k _ hx 7 (by omega))
      dsimp only [PV.cell] at c0 c1 c2 c3 c4 c5 c6 c7
      rw [Nat.add_zero] at c0
      dsimp only [modE, slV] at HROW
      clear hcells hx hat htk
      generalize es.length = le at *
      generalize is.length = li at *
      generalize ps.length = lp at *
      generalize (l.take k).flatMap modE = acc at *
      have O7 := hown.alloc (.cells #[.string N, .int .i64 ma, .int .i64 mi, .string T, .slice pe le ke, .slice pi li ki, .slice pp lp kp, .int .i64 fi] 57)
      have B7 := B.alloc B.size (.cells #[.string N, .int .i64 ma, .int .i64 mi, .string T, .slice pe le ke, .slice pi li ki, .slice pp lp kp, .int .i64 fi] 57)
      have HB7 : Hid (Below w.heap.size w (wr.alloc (.cells #[.string N, .int .i64 ma, .int .i64 mi, .string T, .slice pe le ke, .slice pi li ki, .slice pp lp kp, .int .i64 fi] 57))) := B7
      have HSZ : Hid (w.heap.size ≤ wr.heap.size) := B.size
      clear hown B7
      go_wp2_with (at_builtin; refine wpList_append_lies _ rfl _ _ _ rfl w.heap.size 31 ii _ 7 120 Tryz.underlying126 hii hz0 hz1 hz2 rfl (by omega) (.slice av k kv) k acc rfl (O7.alloc _) ⟨wr.heap.size + 1, 0, none⟩ 1 1 [.string N, .int .i64 ma, .int .i64 mi, .string T, .slice pe le ke, .slice pi li ki, .slice pp lp kp] rfl rfl (World.news_of_block (cs := #[.string N, .int .i64 ma, .int .i64 mi, .string T, .slice pe le ke, .slice pi li ki, .slice pp lp kp]) (t := 31) (fr := (0, 0)) (by have := CellsAt.new (wr.alloc (.cells #[.string N, .int .i64 ma, .int .i64 mi, .string T, .slice pe le ke, .slice pi li ki, .slice pp lp kp, .int .i64 fi] 57)) 31 #[.string N, .int .i64 ma, .int .i64 mi, .string T, .slice pe le ke, .slice pi li ki, .slice pp lp kp]; rw [World.size_alloc] at this; exact this)) (by simp [Value.oneCell']) (by omega) (by unfold maxLen; omega) (by omega) (by have := HSZ.out; simp; omega) (wr.heap.size + 2) (by simp) ?_; intro g gc w8 hown8 hgrow hat hltg)
      have BB := HB7.out.alloc HB7.out.size (.cells #[.string N, .int .i64 ma, .int .i64 mi, .string T, .slice pe le ke, .slice pi li ki, .slice pp lp kp] 31)
      exact ⟨⟨k + 1, by omega, by go_num, HROW.out _ _ hown8, BB.grown hgrow BB.size (fun j hj => own_block O7 j hj)⟩, by simp [intOf]; omega⟩
    · obtain rfl : k = l.length := by omega
      rw [List.take_length] at hown
      have HO := hown
      clear hrow
      rcases hown.2 with ⟨rfl, hn⟩ | ⟨g, cap', cur, rfl, hg, hb, hcap, hm, hsz, htk⟩
      · obtain rfl : l = [] := List.length_eq_zero_iff.1 hn
        clear hown HO hat
        go_wp2_with (go_at_call 147; refine (sortNone_any _ _ _ _).mono ?_; rintro e w' ⟨rfl, rfl⟩)
        go_ret
        exact ⟨⟨_, [], rfl, ⟨none, 0, rfl, by simp, .inl rfl⟩, .nil, .nil⟩, B⟩
      · have hgl : g < wr.heap.size := (Array.getElem?_eq_some_iff.1 hb).1
        have HS : Hid (Calls Tryz.prog 147 #[.slice (some ⟨g, 0, none⟩) l.length cap', .func (.func 148) #[] #[]] wr fun e w' => e = .returned (.tuple #[]) ∧ ∃ rs : List PV, rs.Perm l ∧ rs.Pairwise UpName ∧ Below g wr w' ∧ ∀ (j : Nat) (x : PV), rs[j]? = some x → ∀ i, i < 7 → w'.cell? ⟨g, 0 + j * 7 + i, none⟩ = (modE x)[i]?) := by
          refine sortMods_any l g cap' wr h8 hgl (fun j x hj i hi => ⟨?_, CellsAt.frozen (t := 31) (cs := cur) hb _⟩)
          have h1 := flat_at (C := modE) (sz := 7) (fun _ => rfl) l j x i hj hi
          have h2 : (modE x)[i]? = some (modE x)[i]! := by
            rw [List.getElem?_eq_getElem (by show i < 7; exact hi), List.getElem!_eq_getElem?_getD, List.getElem?_eq_getElem (by show i < 7; exact hi)]
            rfl
          rw [h2] at h1 ⊢
          have := HO.cells (g := g) rfl (j * 7 + i) _ h1
          rw [addr_add] at this
          rw [Nat.zero_add]
          exact this
        have HSZ : Hid (w.heap.size ≤ g) := hg
        have HAT : Hid (∀ x ∈ l, PlcAt w.heap.size w x) := hat
        clear hb hcap hm hsz htk hown HO hat
        go_wp2_with fail
        refine HS.out.mono ?_
        rintro e w5 ⟨rfl, rs, hp, hup, b5, hcc⟩
        have HF : Hid (rs.Perm l ∧ rs.Pairwise UpName ∧ Below g wr w5 ∧ ∀ (j : Nat) (x : PV), rs[j]? = some x → ∀ i, i < 7 → w5.cell? ⟨g, 0 + j * 7 + i, none⟩ = (modE x)[i]?) := ⟨hp, hup, b5, hcc⟩
        clear hp hup b5 hcc HS
        go_wp2
        go_ret
        obtain ⟨hp, hup, b5, hcc⟩ := HF.out
        refine ⟨⟨_, rs, rfl, ⟨_, cap', by rw [hp.length_eq]; rfl, by rw [hp.length_eq]; omega, .inr ⟨g, 0, rfl, Nat.lt_of_lt_of_le hgl b5.size, fun j x hj i hi => ?_⟩⟩, hp, hup⟩, B.trans (b5.mono HSZ.out)⟩
        rw [hcc j x hj i hi]
        exact modE_at (HAT.out x (hp.mem_iff.1 (List.mem_of_getElem? hj))) i hi

end Go.Proofs.YtlpnfbpgnfappaaGreat

/- The contract of graph.Order. -/
namespace Go.Proofs.YtlpnfbpgnfappaaGreat
open Go.RowKit Go.PlainAid

set_option maxRecDepth 100000

def leN (a b : Mod) : Bool := decide (a.name.data.toList ≤ b.name.data.toList)
def risen (L : List Plc) : List Mod := (L.map (·.mod)).mergeSort leN
theorem risen_perm (L : List Plc) : (risen L).Perm (L.map (·.mod)) := List.mergeSort_perm _ _
theorem risen_up (L : List Plc) : (risen L).Pairwise fun a b => leN a b = true := by
  refine List.pairwise_mergeSort (fun a b c h1 h2 => ?_) (fun a b => ?_) _
  · simp only [leN, decide_eq_true_eq] at *; exact List.le_trans h1 h2
  · simp only [leN, Bool.or_eq_true, decide_eq_true_eq]; exact List.le_total _ _
theorem risen_rising {L : List Plc} (hd : (L.map (·.mod.name)).Nodup) : Rising ((risen L).map (·.name)) := by
  have h2 : ((risen L).map (·.name)).Nodup := by
    have := ((risen_perm L).map (·.name)).nodup_iff
    rw [List.map_map] at this
    exact this.2 hd
  refine List.pairwise_map.2 (((risen_up L).and (List.pairwise_map.1 h2)).imp fun {a b} h => ?_)
  obtain ⟨h3, h4⟩ := h
  simp only [leN, decide_eq_true_eq] at h3
  exact Classical.byContradiction fun h5 => h4 (bytes_ext (List.le_antisymm h3 (List.not_lt.1 h5)))
theorem risen_of {l rs : List PV} (hp : rs.Perm l) (hu : rs.Pairwise UpName) (hd : (l.map (·.mod.name)).Nodup) : rs.map (·.mod) = risen (l.map PV.plc) := by
  have hmm : (l.map PV.plc).map (·.mod) = l.map (·.mod) := by rw [List.map_map]; rfl
  have hq : (rs.map (·.mod)).Perm (risen (l.map PV.plc)) := by
    have := risen_perm (l.map PV.plc)
    rw [hmm] at this
    exact (hp.map _).trans this.symm
  have hd2 : ((rs.map (·.mod)).map (·.name)).Nodup := by
    rw [List.map_map]
    exact ((hp.map (fun x : PV => x.mod.name)).nodup_iff).2 hd
  refine List.Perm.eq_of_pairwise (le := fun a b => leN a b = true) (fun a b ha hb h1 h2 => ?_) ?_ (risen_up _) hq
  · simp only [leN, decide_eq_true_eq] at h1 h2
    exact nodup_names hd2 ha (hq.mem_iff.2 hb) (bytes_ext (List.le_antisymm h1 h2))
  · refine List.pairwise_map.2 (hu.imp fun {a b} h => ?_)
    simp only [leN, decide_eq_true_eq]
    exact List.not_lt.1 h

def ordOf (L : List Plc) : List ByteArray × Int := if chkGraph L ≠ 0 then ([], chkGraph L) else ordRes (risen L)
theorem ordOf_cases (L : List Plc) : (chkGraph L ≠ 0 ∧ ordOf L = ([], chkGraph L)) ∨ (chkGraph L = 0 ∧ ordOf L = ordRes (risen L)) := by
  unfold ordOf
  by_cases h : chkGraph L = 0
  · exact .inr ⟨h, by rw [if_neg (by omega)]⟩
  · exact .inl ⟨h, by rw [if_pos h]⟩

set_option maxHeartbeats 2000000 in
theorem order_own (l : List PV) (v : Value) (w : World) (hrow : IsPlcs w.heap.size w v l) (hfit : ∀ x ∈ l, x.mod.fits) :
    Calls Tryz.prog 33 #[v] w fun e w' => (∃ r, e = .returned (.tuple #[r, .int .i64 (ordOf (l.map PV.plc)).2]) ∧ RowOf 1 strCell w'.heap.size w' r (ordOf (l.map PV.plc)).1 ∧ CapOk r ∧ w'.ownsRow w.heap.size 9 1 r (ordOf (l.map PV.plc)).1.length ((ordOf (l.map PV.plc)).1.flatMap strC)) ∧ Below w.heap.size w w' := by
  have HW : Hid (Calls Tryz.prog 88 #[v] w fun e w' => e = .returned (.int .i64 (chkGraph (l.map PV.plc))) ∧ Below w.heap.size w w') := graphWrong_any l v w hrow hfit
  have HR : Hid (l.length ≤ 8 → ∀ W, Below w.heap.size w W → Calls Tryz.prog 90 #[v] W fun e w' => (∃ r rs, e = .returned r ∧ RowOf 7 PV.cell w'.heap.size w' r rs ∧ rs.Perm l ∧ rs.Pairwise UpName) ∧ Below W.heap.size W w') := fun h8 W hb => rising_any l v W ((hrow.below hb).more hb.size) h8
  have HO : Hid (∀ W rs r, Below w.heap.size w W → rs.Perm l → RowOf 7 PV.cell W.heap.size W r rs → l.length ≤ 8 → Calls Tryz.prog 89 #[r] W fun e w' => (∃ v, e = .returned (.tuple #[v, .int .i64 (ordRes (rs.map (·.mod))).2]) ∧ RowOf 1 strCell w'.heap.size w' v (ordRes (rs.map (·.mod))).1 ∧ CapOk v ∧ w'.ownsRow W.heap.size 9 1 v (ordRes (rs.map (·.mod))).1.length ((ordRes (rs.map (·.mod))).1.flatMap strC)) ∧ Below W.heap.size W w') :=
    fun W rs r hb hp hr h8 => ordered_own rs r W hr (fun x hx => ((hrow.2 x (hp.mem_iff.1 hx)).below hb).more hb.size) (fun x hx => hfit x (hp.mem_iff.1 hx)) (by rw [hp.length_eq]; exact h8)
  have key := ordOf_cases (l.map PV.plc)
  have HZ : Hid (chkGraph (l.map PV.plc) = 0 → l.length ≤ 8 ∧ ∀ rs : List PV, rs.Perm l → rs.Pairwise UpName → rs.map (·.mod) = risen (l.map PV.plc)) := fun h0 => by
    have h1 := chkGraph_zero.1 h0
    refine ⟨by simpa using h1.1, fun rs hp hu => risen_of hp hu ?_⟩
    have := h1.2.2
    rw [List.map_map] at this
    exact this
  obtain ⟨⟨a, cap, rfl, _, _⟩, _⟩ := hrow
  generalize chkGraph (l.map PV.plc) = cg at *
  generalize ordOf (l.map PV.plc) = OO at *
  generalize risen (l.map PV.plc) = RR at *
  clear hfit
  go_enter Tryz.func33, Tryz.ntmps33
  go_wp2_with fail
  refine HW.out.mono ?_
  rintro e w2 ⟨rfl, B2⟩
  clear HW
  rcases key with ⟨h0, rfl⟩ | ⟨rfl, rfl⟩
  · have h0' : (cg != 0) = true := by simpa using h0
    clear h0
    go_wp2
    go_ret2
    exact ⟨⟨_, rfl, ⟨none, 0, rfl, by simp, .inl rfl⟩, capNil, World.ownsRow_nil _ _ _ _⟩, B2⟩
  · obtain ⟨h8, hrs⟩ := HZ.out (by first | rfl | trivial)
    have HRS : Hid (∀ rs : List PV, rs.Perm l → rs.Pairwise UpName → rs.map (·.mod) = RR) := hrs
    clear hrs HZ
    go_wp2_with fail
    refine (HR.out h8 _ B2).mono ?_
    rintro e w3 ⟨⟨r, rs, rfl, hr, hp, hu⟩, b3⟩
    have B3 := B2.trans (b3.mono B2.size)
    have HC := HO.out w3 rs r B3 hp hr h8
    rw [HRS.out rs hp hu] at HC
    have HCC : Hid (Calls Tryz.prog 89 #[r] w3 fun e w' => (∃ v, e = .returned (.tuple #[v, .int .i64 (ordRes RR).2]) ∧ RowOf 1 strCell w'.heap.size w' v (ordRes RR).1 ∧ CapOk v ∧ w'.ownsRow w3.heap.size 9 1 v (ordRes RR).1.length ((ordRes RR).1.flatMap strC)) ∧ Below w3.heap.size w3 w') := HC
    clear HC HO HR hp hu hr HRS b3
    go_wp2_with fail
    refine HCC.out.mono ?_
    rintro e w4 ⟨⟨u, rfl, hu, hcu, hou⟩, b4⟩
    have HU : Hid (RowOf 1 strCell w4.heap.size w4 u (ordRes RR).1 ∧ CapOk u ∧ w4.ownsRow w.heap.size 9 1 u (ordRes RR).1.length ((ordRes RR).1.flatMap strC)) := ⟨hu, hcu, own_down hou B3.size⟩
    have B4 := B3.trans (b4.mono B3.size)
    clear HCC hu hcu hou b4
    go_wp2
    go_ret2
    exact ⟨⟨_, rfl, HU.out.1, HU.out.2.1, HU.out.2.2⟩, B4⟩
theorem order_any (l : List PV) (v : Value) (w : World) (hrow : IsPlcs w.heap.size w v l) (hfit : ∀ x ∈ l, x.mod.fits) :
    Calls Tryz.prog 33 #[v] w fun e w' => (∃ r, e = .returned (.tuple #[r, .int .i64 (ordOf (l.map PV.plc)).2]) ∧ RowOf 1 strCell w'.heap.size w' r (ordOf (l.map PV.plc)).1 ∧ CapOk r) ∧ Below w.heap.size w w' := by
  refine (order_own l v w hrow hfit).mono ?_
  rintro e w' ⟨⟨r, h1, h2, h3, _⟩, hb⟩
  exact ⟨⟨r, h1, h2, h3⟩, hb⟩

end Go.Proofs.YtlpnfbpgnfappaaGreat

/- Images and areas, as data. -/
namespace Go.Proofs.YtlpnfbpgnfappaaGreat
open Go.RowKit Go.PlainAid

theorem bytes_app (a b : ByteArray) : (a ++ b).data.toList = a.data.toList ++ b.data.toList := by
  rw [ByteArray.data_append, Array.toList_append]
theorem size_list (s : ByteArray) : s.size = s.data.toList.length := by
  rw [Array.length_toList]; rfl
theorem bytes_eq {a b : ByteArray} (h : a.data.toList = b.data.toList) : a = b := by
  obtain ⟨⟨a⟩⟩ := a
  obtain ⟨⟨b⟩⟩ := b
  simp at h
  rw [h]

/-- So many bytes 255. -/
def blanks (n : Nat) : ByteArray := ⟨(List.replicate n (255 : UInt8)).toArray⟩
theorem blanks_list (n : Nat) : (blanks n).data.toList = List.replicate n (255 : UInt8) := by simp [blanks]
theorem blanks_size (n : Nat) : (blanks n).size = n := by rw [size_list, blanks_list, List.length_replicate]
theorem blanks_zero : blanks 0 = ⟨#[]⟩ := rfl
theorem repeat_blank (c : Nat) : (⟨(Lib.repeatL [(255 : UInt8)] c).toArray⟩ : ByteArray) = blanks c := by
  have h : ∀ c, Lib.repeatL [(255 : UInt8)] c = List.replicate c 255 := by
    intro c
    induction c with
    | zero => rfl
    | succ n ih => rw [Lib.repeatL, ih]; rfl
  rw [h]; rfl

/-- Bytes, with bytes 255 behind them up to so many. -/
def fillTo (s : ByteArray) (n : Nat) : ByteArray := s ++ blanks (n - s.size)
theorem fillTo_size {s : ByteArray} {n : Nat} (h : s.size ≤ n) : (fillTo s n).size = n := by
  unfold fillTo
  rw [ByteArray.size_append, blanks_size]
  omega
theorem fillTo_done {s : ByteArray} {n : Nat} (h : n ≤ s.size) : fillTo s n = s := by
  unfold fillTo
  rw [show n - s.size = 0 by omega]
  refine bytes_eq ?_
  rw [bytes_app, blanks_list]
  simp
theorem fillTo_step {s : ByteArray} {n : Nat} (h : s.size < n) : fillTo (s ++ ⟨#[255]⟩) n = fillTo s n := by
  unfold fillTo
  refine bytes_eq ?_
  rw [bytes_app, bytes_app, bytes_app, blanks_list, blanks_list, ByteArray.size_append]
  obtain ⟨k, hk⟩ : ∃ k, n - s.size = k + 1 := ⟨n - s.size - 1, by omega⟩
  rw [show n - (s.size + ByteArray.size ⟨#[255]⟩) = k from by
    have : ByteArray.size ⟨#[255]⟩ = 1 := rfl
    omega, hk, List.replicate_succ]
  simp

/-- The address that a patch names. -/
def symOf (ads : List Int) (beg : Int) (p : Pat) : Int := if 0 ≤ p.sym then (ads[p.sym.toNat]?).getD 0 else beg
/-- A text with patches, one by one, or why not. -/
def patd (ads : List Int) (beg : Int) : ByteArray → List Pat → ByteArray × Int
  | s, [] => (s, 0)
  | s, p :: r => if appErr s.size p (symOf ads beg p) beg ≠ 0 then (⟨#[]⟩, appErr s.size p (symOf ads beg p) beg) else patd ads beg (appStr s p (symOf ads beg p) beg) r
theorem appStr_size {s : ByteArray} {p : Pat} {sym base : Int} (h : appErr s.size p sym base = 0) : (appStr s p sym base).size = s.size := by
  unfold appStr
  rw [if_pos h, putS_size]
theorem patd_size {ads : List Int} {beg : Int} : ∀ {l : List Pat} {s : ByteArray}, (patd ads beg s l).2 = 0 → (patd ads beg s l).1.size = s.size
  | [], s, _ => rfl
  | p :: r, s, h => by
    unfold patd at h ⊢
    by_cases h0 : appErr s.size p (symOf ads beg p) beg = 0
    · rw [if_neg (by omega)] at h ⊢
      rw [patd_size h, appStr_size h0]
    · rw [if_pos h0] at h
      exact absurd h h0

/-- The image of a placed module, or why not. -/
def imgRes (K : Ker) (L : List Plc) (p : Plc) : ByteArray × Int :=
  if (allRes K L p.mod).2 ≠ 0 then (⟨#[]⟩, (allRes K L p.mod).2)
  else if (patd (allRes K L p.mod).1 (4096 + p.first * 64) p.mod.text p.mod.pats).2 ≠ 0 then (⟨#[]⟩, (patd (allRes K L p.mod).1 (4096 + p.first * 64) p.mod.text p.mod.pats).2)
  else (fillTo (patd (allRes K L p.mod).1 (4096 + p.first * 64) p.mod.text p.mod.pats).1 (64 * szM p.mod), 0)
theorem imgRes_cases (K : Ker) (L : List Plc) (p : Plc) :
    ((allRes K L p.mod).2 ≠ 0 ∧ imgRes K L p = (⟨#[]⟩, (allRes K L p.mod).2)) ∨
    ((allRes K L p.mod).2 = 0 ∧ (patd (allRes K L p.mod).1 (4096 + p.first * 64) p.mod.text p.mod.pats).2 ≠ 0 ∧ imgRes K L p = (⟨#[]⟩, (patd (allRes K L p.mod).1 (4096 + p.first * 64) p.mod.text p.mod.pats).2)) ∨
    ((allRes K L p.mod).2 = 0 ∧ (patd (allRes K L p.mod).1 (4096 + p.first * 64) p.mod.text p.mod.pats).2 = 0 ∧ imgRes K L p = (fillTo (patd (allRes K L p.mod).1 (4096 + p.first * 64) p.mod.text p.mod.pats).1 (64 * szM p.mod), 0)) := by
  unfold imgRes
  by_cases h1 : (allRes K L p.mod).2 = 0
  · by_cases h2 : (patd (allRes K L p.mod).1 (4096 + p.first * 64) p.mod.text p.mod.pats).2 = 0
    · exact .inr (.inr ⟨h1, h2, by rw [if_neg (by omega), if_neg (by omega)]⟩)
    · exact .inr (.inl ⟨h1, h2, by rw [if_neg (by omega), if_pos h2]⟩)
  · exact .inl ⟨h1, by rw [if_pos h1]⟩
theorem szM_le (m : Mod) : m.text.size ≤ 64 * szM m := by unfold szM; omega
theorem imgRes_size {K : Ker} {L : List Plc} {p : Plc} (h : (imgRes K L p).2 = 0) : (imgRes K L p).1.size = 64 * szM p.mod := by
  rcases imgRes_cases K L p with ⟨h1, e⟩ | ⟨h1, h2, e⟩ | ⟨h1, h2, e⟩
  · rw [e] at h; exact absurd h h1
  · rw [e] at h; exact absurd h h2
  · rw [e]
    exact fillTo_size (by rw [patd_size h2]; exact szM_le _)

/-- The images one behind the other, or why not. -/
def areaFrom (K : Ker) (L : List Plc) : ByteArray → List Plc → ByteArray × Int
  | s, [] => (fillTo s 1024, 0)
  | s, p :: r => if (imgRes K L p).2 ≠ 0 then (⟨#[]⟩, (imgRes K L p).2) else areaFrom K L (fillTo s (64 * p.first.toNat) ++ (imgRes K L p).1) r

/-- What is wrong with a kernel and with placed modules, but for what they ask. -/
def chkLink (K : Ker) (L : List Plc) : Int := if chkKer K ≠ 0 then chkKer K else if chkReg L ≠ 0 then chkReg L else if twiceFrom [] L = true then 6 else 0
theorem chkLink_cases (K : Ker) (L : List Plc) : (chkKer K ≠ 0 ∧ chkLink K L = chkKer K) ∨ (chkKer K = 0 ∧ chkReg L ≠ 0 ∧ chkLink K L = chkReg L) ∨ (chkKer K = 0 ∧ chkReg L = 0 ∧ twiceFrom [] L = true ∧ chkLink K L = 6) ∨ (chkKer K = 0 ∧ chkReg L = 0 ∧ twiceFrom [] L = false ∧ chkLink K L = 0) := by
  unfold chkLink
  by_cases h1 : chkKer K = 0
  · by_cases h2 : chkReg L = 0
    · cases h3 : twiceFrom [] L
      · exact .inr (.inr (.inr ⟨h1, h2, rfl, by rw [if_neg (by omega), if_neg (by omega), if_neg (by decide)]⟩))
      · exact .inr (.inr (.inl ⟨h1, h2, rfl, by rw [if_neg (by omega), if_neg (by omega), if_pos rfl]⟩))
    · exact .inr (.inl ⟨h1, h2, by rw [if_neg (by omega), if_pos h2]⟩)
  · exact .inl ⟨h1, by rw [if_pos h1]⟩
theorem chkLink_zero {K : Ker} {L : List Plc} (h : chkLink K L = 0) : chkKer K = 0 ∧ chkReg L = 0 ∧ twiceFrom [] L = false := by
  rcases chkLink_cases K L with ⟨h1, e⟩ | ⟨_, h1, e⟩ | ⟨_, _, _, e⟩ | ⟨h1, h2, h3, _⟩
  · exact absurd (e ▸ h) h1
  · exact absurd (e ▸ h) h1
  · rw [e] at h; exact absurd h (by decide)
  · exact ⟨h1, h2, h3⟩

/-- Where modules lie behind one another they can be asked for. -/
theorem reg_find {K : Ker} {L : List Plc} (hK : chkKer K = 0) (h : chkReg L = 0) : chkFind K L = 0 := by
  obtain ⟨h1, h2, h3⟩ := chkReg_zero.1 h
  unfold chkFind
  rw [if_neg (by omega)]
  unfold chkPlaced
  rw [if_neg (by omega), chkPls_by]
  refine chkBy_zero.2 fun p hp => ⟨h2 p hp, ?_⟩
  have := okPl_first h3 p hp
  have hs := szM_bd (h2 p hp)
  unfold farErr
  rw [betw_true (by omega) (by omega), if_neg (by decide)]
theorem link_find {K : Ker} {L : List Plc} (h : chkLink K L = 0) : chkFind K L = 0 := reg_find (chkLink_zero h).1 (chkLink_zero h).2.1

def imageOf (K : Ker) (L : List Plc) (name : ByteArray) : ByteArray × Int :=
  if chkLink K L ≠ 0 then (⟨#[]⟩, chkLink K L) else match L.find? fun p => p.mod.name == name with
  | none => (⟨#[]⟩, 5)
  | some p => imgRes K L p
def areaOf (K : Ker) (L : List Plc) : ByteArray × Int := if chkLink K L ≠ 0 then (⟨#[]⟩, chkLink K L) else areaFrom K L ⟨#[]⟩ L

/-- What Order tells of modules that lie behind one another. -/
theorem lnOrd_err {L : List Plc} (h : chkReg L = 0) : (twiceFrom [] L = true ∧ (ordOf L).2 = 6) ∨ (twiceFrom [] L = false ∧ chkGraph L = 0 ∧ ((ordOf L).2 = 0 ∨ (ordOf L).2 = 4)) := by
  obtain ⟨h1, h2, _⟩ := chkReg_zero.1 h
  rcases chkGraph_cases L with ⟨hp, _⟩ | ⟨_, _, e⟩
  · refine absurd ?_ hp
    unfold plainErr
    rw [if_neg (by omega)]
    exact chkBy_zero.2 fun p hp => ⟨h2 p hp, rfl⟩
  · cases ht : twiceFrom [] L
    · rw [ht, if_neg (by decide)] at e
      refine .inr ⟨rfl, e, ?_⟩
      unfold ordOf
      rw [if_neg (by omega)]
      unfold ordRes
      split
      · exact .inr rfl
      · exact .inl rfl
    · rw [ht, if_pos rfl] at e
      refine .inl ⟨rfl, ?_⟩
      unfold ordOf
      rw [if_pos (by omega), e]

end Go.Proofs.YtlpnfbpgnfappaaGreat

/- Side by side, as data: a step, and all of them. -/
namespace Go.Proofs.YtlpnfbpgnfappaaGreat
open Go.RowKit Go.PlainAid

/-- The first module that does not begin where the one ahead ends, moved there. -/
def stepFrom : Int → List Plc → Option (List Plc)
  | _, [] => none
  | e, p :: r => if p.first = e then (stepFrom (e + szM p.mod) r).map (p :: ·) else some (⟨p.mod, e⟩ :: r)
/-- All modules side by side. -/
def packFrom : Int → List Plc → List Plc
  | _, [] => []
  | e, p :: r => ⟨p.mod, e⟩ :: packFrom (e + szM p.mod) r
/-- How many are to be moved. -/
def offFrom : Int → List Plc → Nat
  | _, [] => 0
  | e, p :: r => (if p.first = e then 0 else 1) + offFrom (e + szM p.mod) r
theorem step_some : ∀ {L L' : List Plc} {e : Int}, stepFrom e L = some L' → packFrom e L' = packFrom e L ∧ offFrom e L = offFrom e L' + 1 ∧ L'.map (·.mod) = L.map (·.mod)
  | [], _, _, h => by cases h
  | p :: r, L', e, h => by
    unfold stepFrom at h
    by_cases hp : p.first = e
    · rw [if_pos hp] at h
      obtain ⟨r', hr, rfl⟩ := Option.map_eq_some_iff.1 h
      obtain ⟨h1, h2, h3⟩ := step_some hr
      refine ⟨?_, ?_, ?_⟩
      · show _ :: packFrom _ r' = _ :: packFrom _ r
        rw [h1]
      · show _ + offFrom _ r = _ + offFrom _ r' + 1
        rw [h2]
        omega
      · rw [List.map_cons, List.map_cons, h3]
    · rw [if_neg hp] at h
      obtain rfl := Option.some.inj h
      refine ⟨rfl, ?_, rfl⟩
      show (if p.first = e then 0 else 1) + offFrom (e + szM p.mod) r = (if e = e then 0 else 1) + offFrom (e + szM p.mod) r + 1
      rw [if_neg hp, if_pos rfl]
      omega
theorem step_none : ∀ {L : List Plc} {e : Int}, stepFrom e L = none → packFrom e L = L ∧ offFrom e L = 0
  | [], _, _ => ⟨rfl, rfl⟩
  | p :: r, e, h => by
    unfold stepFrom at h
    by_cases hp : p.first = e
    · rw [if_pos hp] at h
      have hr : stepFrom (e + szM p.mod) r = none := by
        cases hs : stepFrom (e + szM p.mod) r with
        | none => rfl
        | some x => rw [hs] at h; cases h
      obtain ⟨h1, h2⟩ := step_none hr
      refine ⟨?_, ?_⟩
      · show (⟨p.mod, e⟩ : Plc) :: packFrom _ r = p :: r
        rw [h1, ← hp]
      · show (if p.first = e then 0 else 1) + offFrom _ r = 0
        rw [h2, if_pos hp]
    · rw [if_neg hp] at h
      cases h
theorem off_step : ∀ {L : List Plc} {e : Int}, offFrom e L ≠ 0 → ∃ L', stepFrom e L = some L' := by
  intro L e h
  cases hs : stepFrom e L with
  | none => exact absurd (step_none hs).2 h
  | some L' => exact ⟨L', rfl⟩
theorem off_le : ∀ (L : List Plc) (e : Int), offFrom e L ≤ L.length
  | [], _ => Nat.le_refl _
  | p :: r, e => by
    have := off_le r (e + szM p.mod)
    show (if p.first = e then 0 else 1) + offFrom _ r ≤ r.length + 1
    split <;> omega
theorem okPl_less : ∀ {L : List Plc} {e e' : Int}, e' ≤ e → okPl e L → okPl e' L
  | [], _, _, h, ho => Int.le_trans h ho
  | _ :: _, _, _, h, ⟨h1, h2, h3, h4⟩ => ⟨Int.le_trans h h1, h2, h3, h4⟩
/-- Behind a step modules still lie behind one another. -/
theorem step_ok : ∀ {L L' : List Plc} {e : Int}, okPl e L → stepFrom e L = some L' → okPl e L'
  | [], _, _, _, h => by cases h
  | p :: r, L', e, ⟨h1, h2, h3, h4⟩, h => by
    unfold stepFrom at h
    by_cases hp : p.first = e
    · rw [if_pos hp] at h
      obtain ⟨r', hr, rfl⟩ := Option.map_eq_some_iff.1 h
      refine ⟨h1, h2, h3, ?_⟩
      rw [hp] at h4 ⊢
      exact step_ok h4 hr
    · rw [if_neg hp] at h
      obtain rfl := Option.some.inj h
      exact ⟨Int.le_refl _, h2, by show e + (szM p.mod : Int) ≤ 16; omega, okPl_less (by show e + (szM p.mod : Int) ≤ _; omega) h4⟩

/-- What hangs on the modules alone. -/
theorem twice_mods : ∀ (L L' : List Plc) (met : List ByteArray), L'.map (·.mod) = L.map (·.mod) → twiceFrom met L' = twiceFrom met L
  | [], [], _, _ => rfl
  | [], _ :: _, _, h => by cases h
  | _ :: _, [], _, h => by cases h
  | p :: l, q :: l', met, h => by
    rw [List.map_cons, List.map_cons] at h
    injection h with h1 h2
    have hs : ∀ (p : Plc) l met, twiceFrom met (p :: l) = ((met.any fun y => y == p.mod.name) || twiceFrom (met ++ [p.mod.name]) l) := fun _ _ _ => rfl
    rw [hs, hs, h1, twice_mods l l' _ h2]
theorem chkBy_mods (L L' : List Plc) (h : L'.map (·.mod) = L.map (·.mod)) : chkBy (fun _ => 0) L' = chkBy (fun _ => 0) L := by
  have key : ∀ L : List Plc, chkBy (fun _ => 0) L = ((L.map (·.mod)).foldr (fun m a => if chkMod m ≠ 0 then chkMod m else a) 0) := by
    intro L
    induction L with
    | nil => rfl
    | cons p l ih =>
      have hs : chkBy (fun _ => 0) (p :: l) = if chkMod p.mod ≠ 0 then chkMod p.mod else if (0 : Int) ≠ 0 then 0 else chkBy (fun _ => 0) l := rfl
      rw [hs, ih]
      simp
  rw [key, key, h]
theorem ord_mods (L L' : List Plc) (h : L'.map (·.mod) = L.map (·.mod)) : ordOf L' = ordOf L := by
  have hl : L'.length = L.length := by have := congrArg List.length h; simpa using this
  unfold ordOf chkGraph plainErr risen
  rw [hl, chkBy_mods L L' h, twice_mods L L' [] h, h]

end Go.Proofs.YtlpnfbpgnfappaaGreat
