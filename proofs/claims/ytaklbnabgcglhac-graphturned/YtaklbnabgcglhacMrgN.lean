/- Texts that are laid together. -/
import Derived.Test.YtaklbnabgcglhacMrgM

/- The contract of graph.rising. -/
namespace Go.Proofs.Ytaklbnabgcglhac
open Go.RowKit Go.PlainAid

set_option maxRecDepth 100000

set_option maxHeartbeats 2000000 in
theorem insNone_any (p : Option Addr) (cap : Nat) (fv : Value) (w : World) :
    Calls Try.prog 81 #[.slice p 0 cap, .int .i64 0, .int .i64 0, fv] w fun e w' => e = .returned (.tuple #[]) ∧ w' = w := by
  go_enter Try.func81, Try.ntmps81
  go_wp2
  refine wp_loop_rounds 1 ?_
  rw [rounds_succ]
  go_wp2
  go_end0
  exact ⟨rfl, rfl⟩
set_option maxHeartbeats 2000000 in
theorem pdqNone_any (p : Option Addr) (cap : Nat) (lim : Int) (fv : Value) (w : World) :
    Calls Try.prog 73 #[.slice p 0 cap, .int .i64 0, .int .i64 0, .int .i64 lim, fv] w fun e w' => e = .returned (.tuple #[]) ∧ w' = w := by
  have hi := fun W => insNone_any p cap fv W
  go_enter Try.func73, Try.ntmps73
  go_wp2
  refine wp_loop_rounds 1 ?_
  rw [rounds_succ]
  go_wp2_with (go_at_call 81; refine (hi _).mono ?_; rintro e w' ⟨rfl, rfl⟩)
  (try simp only [Exit.inBlock, Exit.then]); refine bodyPost_ret (results_none rfl _ _ _) rfl ?_
  exact ⟨rfl, rfl⟩
set_option maxHeartbeats 2000000 in
theorem sortNone_any (p : Option Addr) (cap : Nat) (fv : Value) (w : World) :
    Calls Try.prog 59 #[.slice p 0 cap, fv] w fun e w' => e = .returned (.tuple #[]) ∧ w' = w := by
  have hi := fun lim W => pdqNone_any p cap lim fv W
  have hl := fun W => bitsLen_any 0 W (by omega)
  go_enter Try.func59, Try.ntmps59
  go_wp2_with (first | (go_at_call 74; refine (hl _).mono ?_; rintro e w' ⟨⟨q, rfl⟩, rfl⟩) | (go_at_call 73; refine (hi _ _).mono ?_; rintro e w' ⟨rfl, rfl⟩))
  go_end0
  exact ⟨rfl, rfl⟩

def pvZero : PV := ⟨⟨⟨#[]⟩, 0, 0, ⟨#[]⟩, [], [], []⟩, .slice none 0 0, .slice none 0 0, .slice none 0 0, 0⟩
def UpName (a b : PV) : Prop := ¬ b.mod.name.data.toList < a.mod.name.data.toList

theorem sortMods_any (l : List PV) (g cap : Nat) (w : World) (h8 : l.length ≤ 8) (hg : g < w.heap.size)
    (hc : ∀ (j : Nat) (x : PV), l[j]? = some x → ∀ i, i < 7 → w.cell? ⟨g, 0 + j * 7 + i, none⟩ = (modE x)[i]? ∧ w.frozen? ⟨g, 0 + j * 7 + i, none⟩ = false) :
    Calls Try.prog 59 #[.slice (some ⟨g, 0, none⟩) l.length cap, .func (.func 60) #[] #[]] w fun e w' => e = .returned (.tuple #[]) ∧ ∃ rs : List PV, rs.Perm l ∧ rs.Pairwise UpName ∧ Below g w w' ∧ ∀ (j : Nat) (x : PV), rs[j]? = some x → ∀ i, i < 7 → w'.cell? ⟨g, 0 + j * 7 + i, none⟩ = (modE x)[i]? := by
  have inh : Inhabited PV := ⟨pvZero⟩
  have hl7 : ∀ x : PV, (modE x).length = 7 := fun _ => rfl
  have at_ : ∀ (x : PV) (i : Nat), i < 7 → (modE x)[i]? = some (modE x)[i]! := fun x i hi => by
    rw [List.getElem?_eq_getElem (by rw [hl7]; exact hi), List.getElem!_eq_getElem?_getD, List.getElem?_eq_getElem (by rw [hl7]; exact hi)]
    rfl
  have arr : ∀ (a : Array PV) (j : Nat), j < a.size → a.toList[j]? = some a[j]! := fun a j hj => by
    rw [getElem!_pos a j hj, List.getElem?_eq_getElem (by simpa using hj)]
    simp
  have hH : Go.Sort.HoldsK modE 7 w g 0 l.toArray := by
    intro t ht
    rw [Go.Sort.size_flatK] at ht
    rw [Go.Sort.get_flatK _ _ _ _ ht]
    have hs : l.toArray.size = l.length := by simp
    have hq : t / 7 < l.length := by rw [hs] at ht; omega
    have hx := arr l.toArray (t / 7) (by rw [hs]; exact hq)
    rw [List.toList_toArray] at hx
    have h1 := hc (t / 7) _ hx (t % 7) (by omega)
    rw [show 0 + t / 7 * 7 + t % 7 = 0 + t by omega, at_ _ _ (by omega)] at h1
    exact h1
  have hcon := AnyQ.slices_SortFunc_small_sorted sortFL 7 Try.isAgg36 Try.sizeOf36 modE hl7 modE_one (fun x y => Lib.compareBytes x.mod.name.data.toList y.mod.name.data.toList) 60 #[] cmp_swo g 0 cap l.toArray w (enters_of Try.func60 (by kernel_rfl) rfl) (fun _ _ _ _ x y => rising1_any x y _) hH hg (by simp; omega) (fun n W hn => bitsLen_any n W hn)
  refine Calls.mono hcon ?_
  rintro e w' ⟨rfl, d', n, os, hp, hs, rfl⟩
  have hsz : d'.size = l.length := by rw [hp.1]; simp
  have hperm : d'.toList.Perm l := by
    have h1 := hp.2.2
    have e1 : l.toArray.size = d'.size := by rw [hsz]; simp
    rw [Array.extract_size, e1, Array.extract_size, List.toList_toArray] at h1
    exact h1
  refine ⟨rfl, d'.toList, hperm, ?_, below_sortWorld _ _ _ _ _ _ _ _ hg, ?_⟩
  · rw [List.pairwise_iff_getElem]
    intro i j hi hj hij
    have h1 := hs i j (Nat.zero_le _) hij (by simp at hj ⊢; omega)
    have hi' : i < d'.size := by simpa using hi
    have hj' : j < d'.size := by simpa using hj
    rw [getElem!_pos d' i hi', getElem!_pos d' j hj'] at h1
    unfold ltOf at h1
    rw [decide_eq_false_iff_not, cmpB_neg] at h1
    simp only [UpName, Array.getElem_toList]
    exact h1
  · intro j x hx i hi
    have hj : j < d'.size := by
      have := (List.getElem?_eq_some_iff.1 hx).1
      simpa using this
    have hx2 := arr d' j hj
    rw [hx] at hx2
    injection hx2 with hx2
    subst hx2
    rw [at_ _ _ hi]
    exact (Go.Sort.HoldsK.cell (holdsK_sortWorldK_c modE 7 w g 0 l.toArray d' n os hH hg (by rw [hsz]; simp)) hj hi).1

theorem infoMod : (Try.prog.info? 36).map (fun i => (i.zero, i.size, i.bytes)) = some (some (.agg #[.string ⟨#[]⟩, .int .i64 0, .int .i64 0, .string ⟨#[]⟩, .slice none 0 0, .slice none 0 0, .slice none 0 0]), 7, 120) := by kernel_rfl
theorem infoMod_parts : ∃ i, Try.prog.info? 36 = some i ∧ i.zero = some (.agg #[.string ⟨#[]⟩, .int .i64 0, .int .i64 0, .string ⟨#[]⟩, .slice none 0 0, .slice none 0 0, .slice none 0 0]) ∧ i.size = 7 ∧ i.bytes = 120 := by
  have h := infoMod
  cases hi : Try.prog.info? 36 with
  | none => rw [hi] at h; cases h
  | some i =>
    rw [hi] at h
    simp at h
    exact ⟨i, rfl, h.1, h.2.1, h.2.2⟩

end Go.Proofs.Ytaklbnabgcglhac

/- The contract of graph.rising. -/
namespace Go.Proofs.Ytaklbnabgcglhac
open Go.RowKit Go.PlainAid

set_option maxRecDepth 100000

theorem addr_add (g j : Nat) : (⟨g, 0, none⟩ : Addr).add j = ⟨g, j, none⟩ := by unfold Addr.add; split <;> simp_all

set_option maxHeartbeats 4000000 in
theorem rising_any (l : List PV) (v : Value) (w : World) (hrow : IsPlcs w.heap.size w v l) (h8 : l.length ≤ 8) :
    Calls Try.prog 32 #[v] w fun e w' => (∃ r rs, e = .returned r ∧ RowOf 7 PV.cell w'.heap.size w' r rs ∧ rs.Perm l ∧ rs.Pairwise UpName) ∧ Below w.heap.size w w' := by
  have hat := hrow.2
  obtain ⟨⟨a, cap, rfl, hmax, hrow⟩, _⟩ := hrow
  obtain ⟨ii, hii, hz0, hz1, hz2⟩ := infoMod_parts
  go_enter Try.func32, Try.ntmps32
  go_wp2_with fail
  go_loopw [3, 8] (fun f i wr => ∃ (k : Nat), k ≤ l.length ∧ i = .int .i64 k ∧ wr.ownsRow w.heap.size 36 7 f k ((l.take k).flatMap modE) ∧ Below w.heap.size w wr) (fun _ i _ => l.length - (intOf i).toNat)
  case atStart => exact ⟨0, Nat.zero_le _, rfl, ⟨rfl, .inl ⟨rfl, rfl⟩⟩, Below.refl _ _⟩
  case round =>
    obtain ⟨k, hk, rfl, hown, B⟩ := hrel
    by_cases hlt : k < l.length
    · obtain ⟨av, kv, rfl⟩ := own_form hown
      obtain ⟨x, hx⟩ : ∃ x, l[k]? = some x := ⟨_, List.getElem?_eq_getElem hlt⟩
      rcases hrow with h | ⟨b, off, rfl, hbn, hcells⟩
      · subst h; simp at hlt
      have htk : l.take (k + 1) = l.take k ++ [x] := by rw [List.take_add_one, hx]; rfl
      have HROW : Hid (∀ (W : World) (u : Value), W.ownsRow w.heap.size 36 7 u (k + 1) ((l.take k).flatMap modE ++ modE x) → W.ownsRow w.heap.size 36 7 u (k + 1) ((l.take (k + 1)).flatMap modE)) := fun W u h => by
        rw [htk, List.flatMap_append]
        simpa using h
      obtain ⟨⟨pe, ke, e4, _⟩, ⟨pi, ki, e5, _⟩, ⟨pp, kp, e6, _⟩⟩ := hat x (List.mem_of_getElem? hx)
      obtain ⟨⟨N, ma, mi, T, es, is, ps⟩, ve, vi, vp, fi⟩ := x
      dsimp only at e4 e5 e6
      subst e4 e5 e6
      have c0 := (B.cell (p := ⟨b, off + k * 8 + 0, none⟩) hbn).trans (hcells k _ hx 0 (by omega))
      have c1 := (B.cell (p := ⟨b, off + k * 8 + 1, none⟩) hbn).trans (hcells k _ hx 1 (by omega))
      have c2 := (B.cell (p := ⟨b, off + k * 8 + 2, none⟩) hbn).trans (hcells k _ hx 2 (by omega))
      have c3 := (B.cell (p := ⟨b, off + k * 8 + 3, none⟩) hbn).trans (hcells k _ hx 3 (by omega))
      have c4 := (B.cell (p := ⟨b, off + k * 8 + 4, none⟩) hbn).trans (hcells k _ hx 4 (by omega))
      have c5 := (B.cell (p := ⟨b, off + k * 8 + 5, none⟩) hbn).trans (hcells k _ hx 5 (by omega))
      have c6 := (B.cell (p := ⟨b, off + k * 8 + 6, none⟩) hbn).trans (hcells k _ hx 6 (by omega))
      have c7 := (B.cell (p := ⟨b, off + k * 8 + 7, none⟩) hbn).trans (hcells k _ hx 7 (by omega))
      dsimp only [PV.cell] at c0 c1 c2 c3 c4 c5 c6 c7
      rw [Nat.add_zero] at c0
      dsimp only [modE, slV] at HROW
      clear hcells hx hat htk
      generalize es.length = le at *
      generalize is.length = li at *
      generalize ps.length = lp at *
      generalize (l.take k).flatMap modE = acc at *
      have O7 := hown.alloc (.cells #[.string N, .int .i64 ma, .int .i64 mi, .string T, .slice pe le ke, .slice pi li ki, .slice pp lp kp, .int .i64 fi] 38)
      have B7 := B.alloc B.size (.cells #[.string N, .int .i64 ma, .int .i64 mi, .string T, .slice pe le ke, .slice pi li ki, .slice pp lp kp, .int .i64 fi] 38)
      have HB7 : Hid (Below w.heap.size w (wr.alloc (.cells #[.string N, .int .i64 ma, .int .i64 mi, .string T, .slice pe le ke, .slice pi li ki, .slice pp lp kp, .int .i64 fi] 38))) := B7
      have HSZ : Hid (w.heap.size ≤ wr.heap.size) := B.size
      clear hown B7
      go_wp2_with (at_builtin; refine wpList_append_lies _ rfl _ _ _ rfl w.heap.size 36 ii _ 7 120 Try.underlying61 hii hz0 hz1 hz2 rfl (by omega) (.slice av k kv) k acc rfl (O7.alloc _) ⟨wr.heap.size + 1, 0, none⟩ 1 1 [.string N, .int .i64 ma, .int .i64 mi, .string T, .slice pe le ke, .slice pi li ki, .slice pp lp kp] rfl rfl (World.news_of_block (cs := #[.string N, .int .i64 ma, .int .i64 mi, .string T, .slice pe le ke, .slice pi li ki, .slice pp lp kp]) (t := 36) (fr := (0, 0)) (by have := CellsAt.new (wr.alloc (.cells #[.string N, .int .i64 ma, .int .i64 mi, .string T, .slice pe le ke, .slice pi li ki, .slice pp lp kp, .int .i64 fi] 38)) 36 #[.string N, .int .i64 ma, .int .i64 mi, .string T, .slice pe le ke, .slice pi li ki, .slice pp lp kp]; rw [World.size_alloc] at this; exact this)) (by simp [Value.oneCell']) (by omega) (by unfold maxLen; omega) (by omega) (by have := HSZ.out; simp; omega) (wr.heap.size + 2) (by simp) ?_; intro g gc w8 hown8 hgrow hat hltg)
      have BB := HB7.out.alloc HB7.out.size (.cells #[.string N, .int .i64 ma, .int .i64 mi, .string T, .slice pe le ke, .slice pi li ki, .slice pp lp kp] 36)
      exact ⟨⟨k + 1, by omega, by go_num, HROW.out _ _ hown8, BB.grown hgrow BB.size (fun j hj => own_block O7 j hj)⟩, by simp [intOf]; omega⟩
    · obtain rfl : k = l.length := by omega
      rw [List.take_length] at hown
      have HO := hown
      clear hrow
      rcases hown.2 with ⟨rfl, hn⟩ | ⟨g, cap', cur, rfl, hg, hb, hcap, hm, hsz, htk⟩
      · obtain rfl : l = [] := List.length_eq_zero_iff.1 hn
        clear hown HO hat
        go_wp2_with (go_at_call 59; refine (sortNone_any _ _ _ _).mono ?_; rintro e w' ⟨rfl, rfl⟩)
        go_ret
        exact ⟨⟨_, [], rfl, ⟨none, 0, rfl, by simp, .inl rfl⟩, .nil, .nil⟩, B⟩
      · have hgl : g < wr.heap.size := (Array.getElem?_eq_some_iff.1 hb).1
        have HS : Hid (Calls Try.prog 59 #[.slice (some ⟨g, 0, none⟩) l.length cap', .func (.func 60) #[] #[]] wr fun e w' => e = .returned (.tuple #[]) ∧ ∃ rs : List PV, rs.Perm l ∧ rs.Pairwise UpName ∧ Below g wr w' ∧ ∀ (j : Nat) (x : PV), rs[j]? = some x → ∀ i, i < 7 → w'.cell? ⟨g, 0 + j * 7 + i, none⟩ = (modE x)[i]?) := by
          refine sortMods_any l g cap' wr h8 hgl (fun j x hj i hi => ⟨?_, CellsAt.frozen (t := 36) (cs := cur) hb _⟩)
          have h1 := flat_at (C := modE) (sz := 7) (fun _ => rfl) l j x i hj hi
          have h2 : (modE x)[i]? = some (modE x)[i]! := by
            rw [List.getElem?_eq_getElem (by show i < 7; exact hi), List.getElem!_eq_getElem?_getD, List.getElem?_eq_getElem (by show i < 7; exact hi)]
            rfl
          rw [h2] at h1 ⊢
          have := HO.cells (g := g) rfl (j * 7 + i) _ h1
          rw [addr_add] at this
          rw [Nat.zero_add]
          exact this
        have HSZ : Hid (w.heap.size ≤ g) := hg
        have HAT : Hid (∀ x ∈ l, PlcAt w.heap.size w x) := hat
        clear hb hcap hm hsz htk hown HO hat
        go_wp2_with fail
        refine HS.out.mono ?_
        rintro e w5 ⟨rfl, rs, hp, hup, b5, hcc⟩
        have HF : Hid (rs.Perm l ∧ rs.Pairwise UpName ∧ Below g wr w5 ∧ ∀ (j : Nat) (x : PV), rs[j]? = some x → ∀ i, i < 7 → w5.cell? ⟨g, 0 + j * 7 + i, none⟩ = (modE x)[i]?) := ⟨hp, hup, b5, hcc⟩
        clear hp hup b5 hcc HS
        go_wp2
        go_ret
        obtain ⟨hp, hup, b5, hcc⟩ := HF.out
        refine ⟨⟨_, rs, rfl, ⟨_, cap', by rw [hp.length_eq]; rfl, by rw [hp.length_eq]; omega, .inr ⟨g, 0, rfl, Nat.lt_of_lt_of_le hgl b5.size, fun j x hj i hi => ?_⟩⟩, hp, hup⟩, B.trans (b5.mono HSZ.out)⟩
        rw [hcc j x hj i hi]
        exact modE_at (HAT.out x (hp.mem_iff.1 (List.mem_of_getElem? hj))) i hi

end Go.Proofs.Ytaklbnabgcglhac

/- The contract of graph.Order. -/
namespace Go.Proofs.Ytaklbnabgcglhac
open Go.RowKit Go.PlainAid

set_option maxRecDepth 100000

def leN (a b : Mod) : Bool := decide (a.name.data.toList ≤ b.name.data.toList)
def risen (L : List Plc) : List Mod := (L.map (·.mod)).mergeSort leN
theorem risen_perm (L : List Plc) : (risen L).Perm (L.map (·.mod)) := List.mergeSort_perm _ _
theorem risen_up (L : List Plc) : (risen L).Pairwise fun a b => leN a b = true := by
  refine List.pairwise_mergeSort (fun a b c h1 h2 => ?_) (fun a b => ?_) _
  · simp only [leN, decide_eq_true_eq] at *; exact List.le_trans h1 h2
  · simp only [leN, Bool.or_eq_true, decide_eq_true_eq]; exact List.le_total _ _
theorem risen_rising {L : List Plc} (hd : (L.map (·.mod.name)).Nodup) : Rising ((risen L).map (·.name)) := by
  have h2 : ((risen L).map (·.name)).Nodup := by
    have := ((risen_perm L).map (·.name)).nodup_iff
    rw [List.map_map] at this
    exact this.2 hd
  refine List.pairwise_map.2 (((risen_up L).and (List.pairwise_map.1 h2)).imp fun {a b} h => ?_)
  obtain ⟨h3, h4⟩ := h
  simp only [leN, decide_eq_true_eq] at h3
  exact Classical.byContradiction fun h5 => h4 (bytes_ext (List.le_antisymm h3 (List.not_lt.1 h5)))
theorem risen_of {l rs : List PV} (hp : rs.Perm l) (hu : rs.Pairwise UpName) (hd : (l.map (·.mod.name)).Nodup) : rs.map (·.mod) = risen (l.map PV.plc) := by
  have hmm : (l.map PV.plc).map (·.mod) = l.map (·.mod) := by rw [List.map_map]; rfl
  have hq : (rs.map (·.mod)).Perm (risen (l.map PV.plc)) := by
    have := risen_perm (l.map PV.plc)
    rw [hmm] at this
    exact (hp.map _).trans this.symm
  have hd2 : ((rs.map (·.mod)).map (·.name)).Nodup := by
    rw [List.map_map]
    exact ((hp.map (fun x : PV => x.mod.name)).nodup_iff).2 hd
  refine List.Perm.eq_of_pairwise (le := fun a b => leN a b = true) (fun a b ha hb h1 h2 => ?_) ?_ (risen_up _) hq
  · simp only [leN, decide_eq_true_eq] at h1 h2
    exact nodup_names hd2 ha (hq.mem_iff.2 hb) (bytes_ext (List.le_antisymm h1 h2))
  · refine List.pairwise_map.2 (hu.imp fun {a b} h => ?_)
    simp only [leN, decide_eq_true_eq]
    exact List.not_lt.1 h

def ordOf (L : List Plc) : List ByteArray × Int := if chkGraph L ≠ 0 then ([], chkGraph L) else ordRes (risen L)
theorem ordOf_cases (L : List Plc) : (chkGraph L ≠ 0 ∧ ordOf L = ([], chkGraph L)) ∨ (chkGraph L = 0 ∧ ordOf L = ordRes (risen L)) := by
  unfold ordOf
  by_cases h : chkGraph L = 0
  · exact .inr ⟨h, by rw [if_neg (by omega)]⟩
  · exact .inl ⟨h, by rw [if_pos h]⟩

set_option maxHeartbeats 2000000 in
theorem order_any (l : List PV) (v : Value) (w : World) (hrow : IsPlcs w.heap.size w v l) (hfit : ∀ x ∈ l, x.mod.fits) :
    Calls Try.prog 13 #[v] w fun e w' => (∃ r, e = .returned (.tuple #[r, .int .i64 (ordOf (l.map PV.plc)).2]) ∧ RowOf 1 strCell w'.heap.size w' r (ordOf (l.map PV.plc)).1 ∧ CapOk r) ∧ Below w.heap.size w w' := by
  have HW : Hid (Calls Try.prog 30 #[v] w fun e w' => e = .returned (.int .i64 (chkGraph (l.map PV.plc))) ∧ Below w.heap.size w w') := graphWrong_any l v w hrow hfit
  have HR : Hid (l.length ≤ 8 → ∀ W, Below w.heap.size w W → Calls Try.prog 32 #[v] W fun e w' => (∃ r rs, e = .returned r ∧ RowOf 7 PV.cell w'.heap.size w' r rs ∧ rs.Perm l ∧ rs.Pairwise UpName) ∧ Below W.heap.size W w') := fun h8 W hb => rising_any l v W ((hrow.below hb).more hb.size) h8
  have HO : Hid (∀ W rs r, Below w.heap.size w W → rs.Perm l → RowOf 7 PV.cell W.heap.size W r rs → l.length ≤ 8 → Calls Try.prog 31 #[r] W fun e w' => (∃ v, e = .returned (.tuple #[v, .int .i64 (ordRes (rs.map (·.mod))).2]) ∧ RowOf 1 strCell w'.heap.size w' v (ordRes (rs.map (·.mod))).1 ∧ CapOk v) ∧ Below W.heap.size W w') :=
    fun W rs r hb hp hr h8 => ordered_any rs r W hr (fun x hx => ((hrow.2 x (hp.mem_iff.1 hx)).below hb).more hb.size) (fun x hx => hfit x (hp.mem_iff.1 hx)) (by rw [hp.length_eq]; exact h8)
  have key := ordOf_cases (l.map PV.plc)
  have HZ : Hid (chkGraph (l.map PV.plc) = 0 → l.length ≤ 8 ∧ ∀ rs : List PV, rs.Perm l → rs.Pairwise UpName → rs.map (·.mod) = risen (l.map PV.plc)) := fun h0 => by
    have h1 := chkGraph_zero.1 h0
    refine ⟨by simpa using h1.1, fun rs hp hu => risen_of hp hu ?_⟩
    have := h1.2.2
    rw [List.map_map] at this
    exact this
  obtain ⟨⟨a, cap, rfl, _, _⟩, _⟩ := hrow
  generalize chkGraph (l.map PV.plc) = cg at *
  generalize ordOf (l.map PV.plc) = OO at *
  generalize risen (l.map PV.plc) = RR at *
  clear hfit
  go_enter Try.func13, Try.ntmps13
  go_wp2_with fail
  refine HW.out.mono ?_
  rintro e w2 ⟨rfl, B2⟩
  clear HW
  rcases key with ⟨h0, rfl⟩ | ⟨rfl, rfl⟩
  · have h0' : (cg != 0) = true := by simpa using h0
    clear h0
    go_wp2
    go_ret2
    exact ⟨⟨_, rfl, ⟨none, 0, rfl, by simp, .inl rfl⟩, capNil⟩, B2⟩
  · obtain ⟨h8, hrs⟩ := HZ.out (by first | rfl | trivial)
    have HRS : Hid (∀ rs : List PV, rs.Perm l → rs.Pairwise UpName → rs.map (·.mod) = RR) := hrs
    clear hrs HZ
    go_wp2_with fail
    refine (HR.out h8 _ B2).mono ?_
    rintro e w3 ⟨⟨r, rs, rfl, hr, hp, hu⟩, b3⟩
    have B3 := B2.trans (b3.mono B2.size)
    have HC := HO.out w3 rs r B3 hp hr h8
    rw [HRS.out rs hp hu] at HC
    have HCC : Hid (Calls Try.prog 31 #[r] w3 fun e w' => (∃ v, e = .returned (.tuple #[v, .int .i64 (ordRes RR).2]) ∧ RowOf 1 strCell w'.heap.size w' v (ordRes RR).1 ∧ CapOk v) ∧ Below w3.heap.size w3 w') := HC
    clear HC HO HR hp hu hr HRS b3
    go_wp2_with fail
    refine HCC.out.mono ?_
    rintro e w4 ⟨⟨u, rfl, hu, hcu⟩, b4⟩
    have HU : Hid (RowOf 1 strCell w4.heap.size w4 u (ordRes RR).1 ∧ CapOk u) := ⟨hu, hcu⟩
    have B4 := B3.trans (b4.mono B3.size)
    clear HCC hu hcu b4
    go_wp2
    go_ret2
    exact ⟨⟨_, rfl, HU.out.1, HU.out.2⟩, B4⟩

end Go.Proofs.Ytaklbnabgcglhac
