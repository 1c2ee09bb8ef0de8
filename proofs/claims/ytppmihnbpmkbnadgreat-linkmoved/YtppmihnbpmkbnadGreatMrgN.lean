/- Texts that are laid together. -/
import Derived.Shelf.SlSortCmp.SmallK
import Derived.Ground.SlsfProg
import Derived.Test.YtppmihnbpmkbnadGreatProg
import Derived.Test.YtppmihnbpmkbnadGreatMrgM
import Derived.Lib.Bytealg

/- The laying of slices.SortFunc at modules. -/
namespace Go.Proofs.YtppmihnbpmkbnadGreat
open Go.Shelf

set_option maxRecDepth 100000

def sortFL_ren : Go.Shelf.Ren := ⟨fun | 6 => 105 | 15 => 143 | 14 => 142 | 28 => 174 | 29 => 175 | 20 => 166 | 21 => 167 | 22 => 168 | 23 => 169 | 24 => 170 | 25 => 171 | 26 => 172 | 27 => 173 | 46 => 185 | 47 => 186 | 48 => 187 | 49 => 188 | 50 => 189 | 57 => 204 | n => n, fun | 22 => 94 | 24 => 39 | 25 => 139 | 3 => 3 | 39 => 154 | 0 => 0 | 53 => 191 | 55 => 194 | 4 => 4 | 46 => 203 | 45 => 202 | 50 => 133 | 5 => 5 | 9 => 9 | 66 => 217 | 70 => 221 | 76 => 238 | 77 => 239 | n => n, fun | n => n⟩
theorem sortFL : Go.Proofs.SlLaysF0.n6 Tryz.prog sortFL_ren := {
  mixed := by kernel_rfl
  f6 := ⟨Tryz.f105.name, by decide, Tryz.func105.trans (congrArg some (by kernel_rfl))⟩
  f14 := ⟨Tryz.f142.name, by decide, Tryz.func142.trans (congrArg some (by kernel_rfl))⟩
  f15 := Tryz.func143.trans (congrArg some (by kernel_rfl))
  f20 := ⟨Tryz.f166.name, by decide, Tryz.func166.trans (congrArg some (by kernel_rfl))⟩
  f21 := ⟨Tryz.f167.name, by decide, Tryz.func167.trans (congrArg some (by kernel_rfl))⟩
  f22 := ⟨Tryz.f168.name, by decide, Tryz.func168.trans (congrArg some (by kernel_rfl))⟩
  f23 := ⟨Tryz.f169.name, by decide, Tryz.func169.trans (congrArg some (by kernel_rfl))⟩
  f24 := ⟨Tryz.f170.name, by decide, Tryz.func170.trans (congrArg some (by kernel_rfl))⟩
  f25 := ⟨Tryz.f171.name, by decide, Tryz.func171.trans (congrArg some (by kernel_rfl))⟩
  f26 := ⟨Tryz.f172.name, by decide, Tryz.func172.trans (congrArg some (by kernel_rfl))⟩
  f27 := ⟨Tryz.f173.name, by decide, Tryz.func173.trans (congrArg some (by kernel_rfl))⟩
  f28 := Tryz.func174.trans (congrArg some (by kernel_rfl))
  f29 := Tryz.func175.trans (congrArg some (by kernel_rfl))
  f46 := ⟨Tryz.f185.name, by decide, Tryz.func185.trans (congrArg some (by kernel_rfl))⟩
  f47 := Tryz.func186.trans (congrArg some (by kernel_rfl))
  f48 := Tryz.func187.trans (congrArg some (by kernel_rfl))
  f49 := ⟨Tryz.f188.name, by decide, Tryz.func188.trans (congrArg some (by kernel_rfl))⟩
  f50 := ⟨Tryz.f189.name, by decide, Tryz.func189.trans (congrArg some (by kernel_rfl))⟩
  f57 := ⟨Tryz.f204.name, by decide, Tryz.func204.trans (congrArg some (by kernel_rfl))⟩
  t0 := Tryz.underlying0
  a0 := Tryz.isAgg0
  z0 := Tryz.sizeOf0
  v0 := Tryz.zeroValue0
  t3 := Tryz.underlying3
  a3 := Tryz.isAgg3
  z3 := Tryz.sizeOf3
  v3 := Tryz.zeroValue3
  t4 := Tryz.underlying4
  a4 := Tryz.isAgg4
  z4 := Tryz.sizeOf4
  v4 := Tryz.zeroValue4
  t5 := Tryz.underlying5
  a5 := Tryz.isAgg5
  z5 := Tryz.sizeOf5
  v5 := Tryz.zeroValue5
  t9 := Tryz.underlying9
  a9 := Tryz.isAgg9
  z9 := Tryz.sizeOf9
  v9 := Tryz.zeroValue9
  t22 := Tryz.underlying94
  a22 := Tryz.isAgg94
  z22 := Tryz.sizeOf94
  v22 := Tryz.zeroValue94
  t25 := Tryz.underlying139
  a25 := Tryz.isAgg139
  z25 := Tryz.sizeOf139
  v25 := Tryz.zeroValue139
  t39 := Tryz.underlying154
  a39 := Tryz.isAgg154
  z39 := Tryz.sizeOf154
  v39 := Tryz.zeroValue154
  t45 := Tryz.underlying202
  a45 := Tryz.isAgg202
  z45 := Tryz.sizeOf202
  v45 := Tryz.zeroValue202
  t46 := Tryz.underlying203
  a46 := Tryz.isAgg203
  z46 := Tryz.sizeOf203
  v46 := Tryz.zeroValue203
  t50 := Tryz.underlying133
  a50 := Tryz.isAgg133
  z50 := Tryz.sizeOf133
  v50 := Tryz.zeroValue133
  t53 := Tryz.underlying191
  a53 := Tryz.isAgg191
  z53 := Tryz.sizeOf191
  v53 := Tryz.zeroValue191
  t55 := Tryz.underlying194
  a55 := Tryz.isAgg194
  z55 := Tryz.sizeOf194
  v55 := Tryz.zeroValue194
  t66 := Tryz.underlying217
  a66 := Tryz.isAgg217
  z66 := Tryz.sizeOf217
  v66 := Tryz.zeroValue217
  t70 := Tryz.underlying221
  a70 := Tryz.isAgg221
  z70 := Tryz.sizeOf221
  v70 := Tryz.zeroValue221
  t76 := Tryz.underlying238
  a76 := Tryz.isAgg238
  z76 := Tryz.sizeOf238
  v76 := Tryz.zeroValue238
  t77 := Tryz.underlying239
  a77 := Tryz.isAgg239
  z77 := Tryz.sizeOf239
  v77 := Tryz.zeroValue239 }

end Go.Proofs.YtppmihnbpmkbnadGreat

/- slices.SortFunc at modules: strings.Compare, math/bits.Len, the function that is handed in, the sort itself. -/
namespace Go.Proofs.YtppmihnbpmkbnadGreat
open Go.RowKit Go.PlainAid
open Go.Sort (grow alloc_eq_grow grow_grow putRow putRowK mapBlock)

set_option maxRecDepth 100000

theorem cmpB_neg : ∀ a b : List UInt8, Lib.compareBytes a b < 0 ↔ a < b
  | [], [] => by simp [Lib.compareBytes]
  | [], _ :: _ => by simp [Lib.compareBytes]
  | _ :: _, [] => by simp [Lib.compareBytes]
  | x :: a, y :: b => by
    unfold Lib.compareBytes
    rw [List.cons_lt_cons_iff]
    by_cases h : x < y
    · rw [if_pos h]
      exact ⟨fun _ => .inl h, fun _ => by decide⟩
    · rw [if_neg h]
      by_cases g : y < x
      · rw [if_pos g]
        constructor
        · intro h1; exact absurd h1 (by decide)
        · rintro (h1 | ⟨rfl, _⟩)
          · exact absurd h1 h
          · exact absurd g h
      · rw [if_neg g, cmpB_neg a b]
        have e : x = y := UInt8.le_antisymm (UInt8.not_lt.1 g) (UInt8.not_lt.1 h)
        constructor
        · exact fun h1 => .inr ⟨e, h1⟩
        · rintro (h1 | ⟨_, h1⟩)
          · exact absurd h1 h
          · exact h1

set_option maxHeartbeats 1000000 in
theorem compareString_any (a b : ByteArray) (w : World) :
    Calls Tryz.prog 144 #[.string a, .string b] w fun e w' => e = .returned (.int .i64 (Lib.compareBytes a.data.toList b.data.toList)) ∧ w' = w := by
  go_enter Tryz.func144, Tryz.ntmps144
  go_wp2
  rw [run_callFunc_extern Tryz.func176 (by kernel_rfl) (by kernel_rfl) (by kernel_rfl) (e := Extern.BytealgCompare.compare) (by kernel_rfl), Lib.run_compareString]
  simp only [Result.andThen]
  rw [Oper.upon_value]
  go_wp2
  go_ret
  exact ⟨rfl, rfl⟩

set_option maxHeartbeats 1000000 in
theorem compare_any (a b : ByteArray) (w : World) :
    Calls Tryz.prog 107 #[.string a, .string b] w fun e w' => e = .returned (.int .i64 (Lib.compareBytes a.data.toList b.data.toList)) ∧ w' = w := by
  have HC := compareString_any a b w
  generalize Lib.compareBytes a.data.toList b.data.toList = r at *
  go_enter Tryz.func107, Tryz.ntmps107
  go_wp2_with fail
  refine HC.mono ?_
  rintro e w2 ⟨rfl, rfl⟩
  clear HC
  go_wp2
  go_ret
  exact ⟨rfl, rfl⟩

set_option maxHeartbeats 4000000 in
theorem bitsLen_any (n : Nat) (W : World) (h : n ≤ 12) : Calls Tryz.prog 143 #[.int .u64 n] W fun e w' => (∃ l : Int, e = .returned (.int .i64 l)) ∧ w' = W := by
  have hn : n = 0 ∨ n = 1 ∨ n = 2 ∨ n = 3 ∨ n = 4 ∨ n = 5 ∨ n = 6 ∨ n = 7 ∨ n = 8 ∨ n = 9 ∨ n = 10 ∨ n = 11 ∨ n = 12 := by omega
  rcases hn with rfl | rfl | rfl | rfl | rfl | rfl | rfl | rfl | rfl | rfl | rfl | rfl | rfl
  all_goals
    go_enter Tryz.func143, Tryz.ntmps143
    go_wp2
    go_ret
    exact ⟨⟨_, rfl⟩, rfl⟩

/-- A slice's value; another one is none. -/
def slV : Value → Value
  | .slice a n c => .slice a n c
  | _ => .slice none 0 0
theorem slV_form (v : Value) : ∃ a n c, slV v = .slice a n c := by
  cases v <;> exact ⟨_, _, _, rfl⟩
def modE (x : PV) : List Value := [.string x.mod.name, .int .i64 x.mod.major, .int .i64 x.mod.minor, .string x.mod.text, slV x.ve, slV x.vi, slV x.vp]
theorem modE_one (x : PV) : ∀ v ∈ modE x, v.oneCell' = true := by
  intro v hv
  unfold modE at hv
  obtain ⟨a, n, c, h1⟩ := slV_form x.ve
  obtain ⟨a2, n2, c2, h2⟩ := slV_form x.vi
  obtain ⟨a3, n3, c3, h3⟩ := slV_form x.vp
  rw [h1, h2, h3] at hv
  simp at hv
  rcases hv with rfl | rfl | rfl | rfl | rfl | rfl | rfl <;> rfl
theorem modE_at {n₀ : Nat} {W : World} {x : PV} (h : PlcAt n₀ W x) (i : Nat) (hi : i < 7) : (modE x)[i]? = some (PV.cell x i) := by
  obtain ⟨⟨pe, ke, e4, _⟩, ⟨pi, ki, e5, _⟩, ⟨pp, kp, e6, _⟩⟩ := h
  have : i = 0 ∨ i = 1 ∨ i = 2 ∨ i = 3 ∨ i = 4 ∨ i = 5 ∨ i = 6 := by omega
  unfold modE
  rw [e4, e5, e6]
  rcases this with rfl | rfl | rfl | rfl | rfl | rfl | rfl <;> first | rfl | exact congrArg some e4.symm | exact congrArg some e5.symm | exact congrArg some e6.symm

set_option maxHeartbeats 2000000 in
theorem rising1_any (x y : PV) (W : World) : Calls Tryz.prog 106 #[.agg (modE x).toArray, .agg (modE y).toArray] W fun e w' => e = .returned (.int .i64 (Lib.compareBytes x.mod.name.data.toList y.mod.name.data.toList)) ∧ ∃ q os', w' = grow (W.drewN q) os' := by
  obtain ⟨a1, n1, c1, h1⟩ := slV_form x.ve
  obtain ⟨a2, n2, c2, h2⟩ := slV_form x.vi
  obtain ⟨a3, n3, c3, h3⟩ := slV_form x.vp
  obtain ⟨a4, n4, c4, h4⟩ := slV_form y.ve
  obtain ⟨a5, n5, c5, h5⟩ := slV_form y.vi
  obtain ⟨a6, n6, c6, h6⟩ := slV_form y.vp
  unfold modE
  rw [h1, h2, h3, h4, h5, h6]
  clear h1 h2 h3 h4 h5 h6
  obtain ⟨⟨N, ma, mi, T, es, is, ps⟩, ve, vi, vp, fi⟩ := x
  obtain ⟨⟨N', ma', mi', T', es', is', ps'⟩, ve', vi', vp', fi'⟩ := y
  dsimp only
  have HC : Hid (∀ W, Calls Tryz.prog 107 #[.string N, .string N'] W fun e w' => e = .returned (.int .i64 (Lib.compareBytes N.data.toList N'.data.toList)) ∧ w' = W) := fun W => compare_any N N' W
  generalize Lib.compareBytes N.data.toList N'.data.toList = r at *
  go_enter Tryz.func106, Tryz.ntmps106
  go_wp2_with fail
  refine (HC.out _).mono ?_
  rintro e w2 ⟨rfl, rfl⟩
  clear HC
  go_wp2
  go_ret
  exact ⟨rfl, 0, _, by rw [alloc_eq_grow, alloc_eq_grow, grow_grow]; rfl⟩

theorem cmp_swo : Go.Sort.SWO (ltOf fun x y : PV => Lib.compareBytes x.mod.name.data.toList y.mod.name.data.toList) := by
  have h : ∀ x y : PV, ltOf (fun x y : PV => Lib.compareBytes x.mod.name.data.toList y.mod.name.data.toList) x y = true ↔ x.mod.name.data.toList < y.mod.name.data.toList := fun x y => by
    unfold ltOf
    rw [decide_eq_true_iff, cmpB_neg]
  have hf : ∀ x y : PV, ltOf (fun x y : PV => Lib.compareBytes x.mod.name.data.toList y.mod.name.data.toList) x y = false ↔ ¬ x.mod.name.data.toList < y.mod.name.data.toList := fun x y => by
    rw [← h, Bool.not_eq_true]
  refine ⟨fun x => (hf x x).2 (List.lt_irrefl _), fun x y z h1 h2 => (h x z).2 (List.lt_trans ((h x y).1 h1) ((h y z).1 h2)), fun x y z h1 h2 => (hf x z).2 ?_⟩
  exact List.not_lt.2 (List.le_trans (List.not_lt.1 ((hf y z).1 h2)) (List.not_lt.1 ((hf x y).1 h1)))

theorem below_sortWorld {α : Type} [Inhabited α] (enc : α → List Value) (k : Nat) (w : World) (blk off m : Nat) (d : Array α) (os : Array Obj) (hb : blk < w.heap.size) : Below blk w (sortWorldK enc k w blk off m d os) := by
  unfold sortWorldK putRowK putRow mapBlock Go.Sort.ahead grow
  refine ⟨rfl, rfl, rfl, by simp, fun i hi => ?_⟩
  dsimp only
  rw [Array.getElem?_append_left (by rw [Array.size_modify]; omega), Array.getElem?_modify, if_neg (by omega)]

end Go.Proofs.YtppmihnbpmkbnadGreat

/- The contract of graph.rising. -/
namespace Go.Proofs.YtppmihnbpmkbnadGreat
open Go.RowKit Go.PlainAid

set_option maxRecDepth 100000

set_option maxHeartbeats 2000000 in
theorem insNone_any (p : Option Addr) (cap : Nat) (fv : Value) (w : World) :
    Calls Tryz.prog 166 #[.slice p 0 cap, .int .i64 0, .int .i64 0, fv] w fun e w' => e = .returned (.tuple #[]) ∧ w' = w := by
  go_enter Tryz.func166, Tryz.ntmps166
  go_wp2
  refine wp_loop_rounds 1 ?_
  rw [rounds_succ]
  go_wp2
  go_end0
  exact ⟨rfl, rfl⟩
set_option maxHeartbeats 2000000 in
theorem pdqNone_any (p : Option Addr) (cap : Nat) (lim : Int) (fv : Value) (w : World) :
    Calls Tryz.prog 142 #[.slice p 0 cap, .int .i64 0, .int .i64 0, .int .i64 lim, fv] w fun e w' => e = .returned (.tuple #[]) ∧ w' = w := by
  have hi := fun W => insNone_any p cap fv W
  go_enter Tryz.func142, Tryz.ntmps142
  go_wp2
  refine wp_loop_rounds 1 ?_
  rw [rounds_succ]
  go_wp2_with (go_at_call 166; refine (hi _).mono ?_; rintro e w' ⟨rfl, rfl⟩)
  (try simp only [Exit.inBlock, Exit.then]); refine bodyPost_ret (results_none rfl _ _ _) rfl ?_
  exact ⟨rfl, rfl⟩
set_option maxHeartbeats 2000000 in
theorem sortNone_any (p : Option Addr) (cap : Nat) (fv : Value) (w : World) :
    Calls Tryz.prog 105 #[.slice p 0 cap, fv] w fun e w' => e = .returned (.tuple #[]) ∧ w' = w := by
  have hi := fun lim W => pdqNone_any p cap lim fv W
  have hl := fun W => bitsLen_any 0 W (by omega)
  go_enter Tryz.func105, Tryz.ntmps105
  go_wp2_with (first | (go_at_call 143; refine (hl _).mono ?_; rintro e w' ⟨⟨q, rfl⟩, rfl⟩) | (go_at_call 142; refine (hi _ _).mono ?_; rintro e w' ⟨rfl, rfl⟩))
  go_end0
  exact ⟨rfl, rfl⟩

def pvZero : PV := ⟨⟨⟨#[]⟩, 0, 0, ⟨#[]⟩, [], [], []⟩, .slice none 0 0, .slice none 0 0, .slice none 0 0, 0⟩
def UpName (a b : PV) : Prop := ¬ b.mod.name.data.toList < a.mod.name.data.toList

theorem sortMods_any (l : List PV) (g cap : Nat) (w : World) (h8 : l.length ≤ 8) (hg : g < w.heap.size)
    (hc : ∀ (j : Nat) (x : PV), l[j]? = some x → ∀ i, i < 7 → w.cell? ⟨g, 0 + j * 7 + i, none⟩ = (modE x)[i]? ∧ w.frozen? ⟨g, 0 + j * 7 + i, none⟩ = false) :
    Calls Tryz.prog 105 #[.slice (some ⟨g, 0, none⟩) l.length cap, .func (.func 106) #[] #[]] w fun e w' => e = .returned (.tuple #[]) ∧ ∃ rs : List PV, rs.Perm l ∧ rs.Pairwise UpName ∧ Below g w w' ∧ ∀ (j : Nat) (x : PV), rs[j]? = some x → ∀ i, i < 7 → w'.cell? ⟨g, 0 + j * 7 + i, none⟩ = (modE x)[i]? := by
  have inh : Inhabited PV := ⟨pvZero⟩
  have hl7 : ∀ x : PV, (modE x).length = 7 := fun _ => rfl
  have at_ : ∀ (x : PV) (i : Nat), i < 7 → (modE x)[i]? = some (modE x)[i]! := fun x i hi => by
    rw [List.getElem?_eq_getElem (by rw [hl7]; exact hi), List.getElem!_eq_getElem?_getD, List.getElem?_eq_getElem (by rw [hl7]; exact hi)]
    rfl
  have arr : ∀ (a : Array PV) (j : Nat), j < a.size → a.toList[j]? = some a[j]! := fun a j hj => by
    rw [getElem!_pos a j hj, List.getElem?_eq_getElem (by simpa using hj)]
    simp
  have hH : Go.Sort.HoldsK modE 7 w g 0 l.toArray := by
    intro t ht
    rw [Go.Sort.size_flatK] at ht
    rw [Go.Sort.get_flatK _ _ _ _ ht]
    have hs : l.toArray.size = l.length := by simp
    have hq : t / 7 < l.length := by rw [hs] at ht; omega
    have hx := arr l.toArray (t / 7) (by rw [hs]; exact hq)
    rw [List.toList_toArray] at hx
    have h1 := hc (t / 7) _ hx (t % 7) (by omega)
    rw [show 0 + t / 7 * 7 + t % 7 = 0 + t by omega, at_ _ _ (by omega)] at h1
    exact h1
  have hcon := AnyQ.slices_SortFunc_small_sorted sortFL 7 Tryz.isAgg39 Tryz.sizeOf39 modE hl7 modE_one (fun x y => Lib.compareBytes x.mod.name.data.toList y.mod.name.data.toList) 106 #[] cmp_swo g 0 cap l.toArray w (enters_of Tryz.func106 (by kernel_rfl) rfl) (fun _ _ _ _ x y => rising1_any x y _) hH hg (by simp; omega) (fun n W hn => bitsLen_any n W hn)
  refine Calls.mono hcon ?_
  rintro e w' ⟨rfl, d', n, os, hp, hs, rfl⟩
  have hsz : d'.size = l.length := by rw [hp.1]; simp
  have hperm : d'.toList.Perm l := by
    have h1 := hp.2.2
    have e1 : l.toArray.size = d'.size := by rw [hsz]; simp
    rw [Array.extract_size, e1, Array.extract_size, List.toList_toArray] at h1
    exact h1
  refine ⟨rfl, d'.toList, hperm, ?_, below_sortWorld _ _ _ _ _ _ _ _ hg, ?_⟩
  · rw [List.pairwise_iff_getElem]
    intro i j hi hj hij
    have h1 := hs i j (Nat.zero_le _) hij (by simp at hj ⊢; omega)
    have hi' : i < d'.size := by simpa using hi
    have hj' : j < d'.size := by simpa using hj
    rw [getElem!_pos d' i hi', getElem!_pos d' j hj'] at h1
    unfold ltOf at h1
    rw [decide_eq_false_iff_not, cmpB_neg] at h1
    simp only [UpName, Array.getElem_toList]
    exact h1
  · intro j x hx i hi
    have hj : j < d'.size := by
      have := (List.getElem?_eq_some_iff.1 hx).1
      simpa using this
    have hx2 := arr d' j hj
    rw [hx] at hx2
    injection hx2 with hx2
    subst hx2
    rw [at_ _ _ hi]
    exact (Go.Sort.HoldsK.cell (holdsK_sortWorldK_c modE 7 w g 0 l.toArray d' n os hH hg (by rw [hsz]; simp)) hj hi).1

theorem infoMod : (Tryz.prog.info? 39).map (fun i => (i.zero, i.size, i.bytes)) = some (some (.agg #[.string ⟨#[]⟩, .int .i64 0, .int .i64 0, .string ⟨#[]⟩, .slice none 0 0, .slice none 0 0, .slice none 0 0]), 7, 120) := by kernel_rfl
theorem infoMod_parts : ∃ i, Tryz.prog.info? 39 = some i ∧ i.zero = some (.agg #[.string ⟨#[]⟩, .int .i64 0, .int .i64 0, .string ⟨#[]⟩, .slice none 0 0, .slice none 0 0, .slice none 0 0]) ∧ i.size = 7 ∧ i.bytes = 120 := by
  have h := infoMod
  cases hi : Tryz.prog.info? 39 with
  | none => rw [hi] at h; cases h
  | some i =>
    rw [hi] at h
    simp at h
    exact ⟨i, rfl, h.1, h.2.1, h.2.2⟩

end Go.Proofs.YtppmihnbpmkbnadGreat

/- The contract of graph.rising. -/
namespace Go.Proofs.YtppmihnbpmkbnadGreat
open Go.RowKit Go.PlainAid

set_option maxRecDepth 100000

theorem addr_add (g j : Nat) : (⟨g, 0, none⟩ : Addr).add j = ⟨g, j, none⟩ := by unfold Addr.add; split <;> simp_all

set_option maxHeartbeats 4000000 in
theorem rising_any (l : List PV) (v : Value) (w : World) (hrow : IsPlcs w.heap.size w v l) (h8 : l.length ≤ 8) :
    Calls Tryz.prog 61 #[v] w fun e w' => (∃ r rs, e = .returned r ∧ RowOf 7 PV.cell w'.heap.size w' r rs ∧ rs.Perm l ∧ rs.Pairwise UpName) ∧ Below w.heap.size w w' := by
  have hat := hrow.2
  obtain ⟨⟨a, cap, rfl, hmax, hrow⟩, _⟩ := hrow
  obtain ⟨ii, hii, hz0, hz1, hz2⟩ := infoMod_parts
  go_enter Tryz.func61, Tryz.ntmps61
  go_wp2_with fail
  go_loopw [3, 8] (fun f i wr => ∃ (k : Nat), k ≤ l.length ∧ i = .int .i64 k ∧ wr.ownsRow w.heap.size 39 7 f k ((l.take k).flatMap modE) ∧ Below w.heap.size w wr) (fun _ i _ => l.length - (intOf i).toNat)
  case atStart => exact ⟨0, Nat.zero_le _, rfl, ⟨rfl, .inl ⟨rfl, rfl⟩⟩, Below.refl _ _⟩
  case round =>
    obtain ⟨k, hk, rfl, hown, B⟩ := hrel
    by_cases hlt : k < l.length
    · obtain ⟨av, kv, rfl⟩ := own_form hown
      obtain ⟨x, hx⟩ : ∃ x, l[k]? = some x := ⟨_, List.getElem?_eq_getElem hlt⟩
      rcases hrow with h | ⟨b, off, rfl, hbn, hcells⟩
      · subst h; simp at hlt
      have htk : l.take (k + 1) = l.take k ++ [x] := by rw [List.take_add_one, hx]; rfl
      have HROW : Hid (∀ (W : World) (u : Value), W.ownsRow w.heap.size 39 7 u (k + 1) ((l.take k).flatMap modE ++ modE x) → W.ownsRow w.heap.size 39 7 u (k + 1) ((l.take (k + 1)).flatMap modE)) := fun W u h => by
        rw [htk, List.flatMap_append]
        simpa using h
      obtain ⟨⟨pe, ke, e4, _⟩, ⟨pi, ki, e5, _⟩, ⟨pp, kp, e6, _⟩⟩ := hat x (List.mem_of_getElem? hx)
      obtain ⟨⟨N, ma, mi, T, es, is, ps⟩, ve, vi, vp, fi⟩ := x
      dsimp only at e4 e5 e6
      subst e4 e5 e6
      have c0 := (B.cell (p := ⟨b, off + k * 8 + 0, none⟩) hbn).trans (hcells k _ hx 0 (by omega))
      have c1 := (B.cell (p := ⟨b, off + k * 8 + 1, none⟩) hbn).trans (hcells k _ hx 1 (by omega))
      have c2 := (B.cell (p := ⟨b, off + k * 8 + 2, none⟩) hbn).trans (hcells k _ hx 2 (by omega))
      have c3 := (B.cell (p := ⟨b, off + k * 8 + 3, none⟩) hbn).trans (hcells k _ hx 3 (by omega))
      have c4 := (B.cell (p := ⟨b, off + k * 8 + 4, none⟩) hbn).trans (hcells k _ hx 4 (by omega))
      have c5 := (B.cell (p := ⟨b, off + k * 8 + 5, none⟩) hbn).trans (hcells k _ hx 5 (by omega))
      have c6 := (B.cell (p := ⟨b, off + k * 8 + 6, none⟩) hbn).trans (hcells k _ hx 6 (by omega))
      have c7 := (B.cell (p := ⟨b, off + k * 8 + 7, none⟩) hbn).trans (hcells k _ hx 7 (by omega))
      dsimp only [PV.cell] at c0 c1 c2 c3 c4 c5 c6 c7
      rw [Nat.add_zero] at c0
      dsimp only [modE, slV] at HROW
      clear hcells hx hat htk
      generalize es.length = le at *
      generalize is.length = li at *
      generalize ps.length = lp at *
      generalize (l.take k).flatMap modE = acc at *
      have O7 := hown.alloc (.cells #[.string N, .int .i64 ma, .int .i64 mi, .string T, .slice pe le ke, .slice pi li ki, .slice pp lp kp, .int .i64 fi] 41)
      have B7 := B.alloc B.size (.cells #[.string N, .int .i64 ma, .int .i64 mi, .string T, .slice pe le ke, .slice pi li ki, .slice pp lp kp, .int .i64 fi] 41)
      have HB7 : Hid (Below w.heap.size w (wr.alloc (.cells #[.string N, .int .i64 ma, .int .i64 mi, .string T, .slice pe le ke, .slice pi li ki, .slice pp lp kp, .int .i64 fi] 41))) := B7
      have HSZ : Hid (w.heap.size ≤ wr.heap.size) := B.size
      clear hown B7
      go_wp2_with (at_builtin; refine wpList_append_lies _ rfl _ _ _ rfl w.heap.size 39 ii _ 7 120 Tryz.underlying94 hii hz0 hz1 hz2 rfl (by omega) (.slice av k kv) k acc rfl (O7.alloc _) ⟨wr.heap.size + 1, 0, none⟩ 1 1 [.string N, .int .i64 ma, .int .i64 mi, .string T, .slice pe le ke, .slice pi li ki, .slice pp lp kp] rfl rfl (World.news_of_block (cs := #[.string N, .int .i64 ma, .int .i64 mi, .string T, .slice pe le ke, .slice pi li ki, .slice pp lp kp]) (t := 39) (fr := (0, 0)) (by have := CellsAt.new (wr.alloc (.cells #[.string N, .int .i64 ma, .int .i64 mi, .string T, .slice pe le ke, .slice pi li ki, .slice pp lp kp, .int .i64 fi] 41)) 39 #[.string N, .int .i64 ma, .int .i64 mi, .string T, .slice pe le ke, .slice pi li ki, .slice pp lp kp]; rw [World.size_alloc] at this; exact this)) (by simp [Value.oneCell']) (by omega) (by unfold maxLen; omega) (by omega) (by have := HSZ.out; simp; omega) (wr.heap.size + 2) (by simp) ?_; intro g gc w8 hown8 hgrow hat hltg)
      have BB := HB7.out.alloc HB7.out.size (.cells #[.string N, .int .i64 ma, .int .i64 mi, .string T, .slice pe le ke, .slice pi li ki, .slice pp lp kp] 39)
      exact ⟨⟨k + 1, by omega, by go_num, HROW.out _ _ hown8, BB.grown hgrow BB.size (fun j hj => own_block O7 j hj)⟩, by simp [intOf]; omega⟩
    · obtain rfl : k = l.length := by omega
      rw [List.take_length] at hown
      have HO := hown
      clear hrow
      rcases hown.2 with ⟨rfl, hn⟩ | ⟨g, cap', cur, rfl, hg, hb, hcap, hm, hsz, htk⟩
      · obtain rfl : l = [] := List.length_eq_zero_iff.1 hn
        clear hown HO hat
        go_wp2_with (go_at_call 105; refine (sortNone_any _ _ _ _).mono ?_; rintro e w' ⟨rfl, rfl⟩)
        go_ret
        exact ⟨⟨_, [], rfl, ⟨none, 0, rfl, by simp, .inl rfl⟩, .nil, .nil⟩, B⟩
      · have hgl : g < wr.heap.size := (Array.getElem?_eq_some_iff.1 hb).1
        have HS : Hid (Calls Tryz.prog 105 #[.slice (some ⟨g, 0, none⟩) l.length cap', .func (.func 106) #[] #[]] wr fun e w' => e = .returned (.tuple #[]) ∧ ∃ rs : List PV, rs.Perm l ∧ rs.Pairwise UpName ∧ Below g wr w' ∧ ∀ (j : Nat) (x : PV), rs[j]? = some x → ∀ i, i < 7 → w'.cell? ⟨g, 0 + j * 7 + i, none⟩ = (modE x)[i]?) := by
          refine sortMods_any l g cap' wr h8 hgl (fun j x hj i hi => ⟨?_, CellsAt.frozen (t := 39) (cs := cur) hb _⟩)
          have h1 := flat_at (C := modE) (sz := 7) (fun _ => rfl) l j x i hj hi
          have h2 : (modE x)[i]? = some (modE x)[i]! := by
            rw [List.getElem?_eq_getElem (by show i < 7; exact hi), List.getElem!_eq_getElem?_getD, List.getElem?_eq_getElem (by show i < 7; exact hi)]
            rfl
          rw [h2] at h1 ⊢
          have := HO.cells (g := g) rfl (j * 7 + i) _ h1
          rw [addr_add] at this
          rw [Nat.zero_add]
          exact this
        have HSZ : Hid (w.heap.size ≤ g) := hg
        have HAT : Hid (∀ x ∈ l, PlcAt w.heap.size w x) := hat
        clear hb hcap hm hsz htk hown HO hat
        go_wp2_with fail
        refine HS.out.mono ?_
        rintro e w5 ⟨rfl, rs, hp, hup, b5, hcc⟩
        have HF : Hid (rs.Perm l ∧ rs.Pairwise UpName ∧ Below g wr w5 ∧ ∀ (j : Nat) (x : PV), rs[j]? = some x → ∀ i, i < 7 → w5.cell? ⟨g, 0 + j * 7 + i, none⟩ = (modE x)[i]?) := ⟨hp, hup, b5, hcc⟩
        clear hp hup b5 hcc HS
        go_wp2
        go_ret
        obtain ⟨hp, hup, b5, hcc⟩ := HF.out
        refine ⟨⟨_, rs, rfl, ⟨_, cap', by rw [hp.length_eq]; rfl, by rw [hp.length_eq]; omega, .inr ⟨g, 0, rfl, Nat.lt_of_lt_of_le hgl b5.size, fun j x hj i hi => ?_⟩⟩, hp, hup⟩, B.trans (b5.mono HSZ.out)⟩
        rw [hcc j x hj i hi]
        exact modE_at (HAT.out x (hp.mem_iff.1 (List.mem_of_getElem? hj))) i hi

end Go.Proofs.YtppmihnbpmkbnadGreat
