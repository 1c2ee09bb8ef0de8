/- The contracts of the document's FreeOf and FitOf. -/
import Derived.Test.YtaklbnabgcglhacRegS
import Derived.Test.YtaklbnabgcglhacRegG
import Derived.Test.YtaklbnabgcglhacRegN
namespace Go.Proofs.Ytaklbnabgcglhac
open Go.RowKit Go.PlainAid

set_option maxRecDepth 100000

def usedArr (u : Nat → Bool) : Array Value := ((List.range 16).map fun j => Value.bool (u j)).toArray
theorem usedArr_get (u : Nat → Bool) {i : Nat} (hi : i < 16) : (usedArr u)[i]? = some (.bool (u i)) := by
  unfold usedArr
  simp [hi]
theorem usedArr_size (u : Nat → Bool) : (usedArr u).size = 16 := by simp [usedArr]
theorem usedArr_set (u : Nat → Bool) (i : Nat) : (usedArr u).setIfInBounds i (.bool true) = usedArr (fun j => decide (j = i) || u j) := by
  apply Array.ext_getElem?
  intro j
  rw [Array.getElem?_setIfInBounds, usedArr_size]
  by_cases hj : j < 16
  · rw [usedArr_get _ hj, usedArr_get _ hj]
    by_cases h : i = j
    · subst h
      rw [if_pos rfl, if_pos hj]
      simp
    · rw [if_neg h, decide_eq_false (fun h3 => h h3.symm)]
      rfl
  · have h1 : (usedArr fun j => decide (j = i) || u j)[j]? = none := by rw [Array.getElem?_eq_none]; rw [usedArr_size]; omega
    have h2 : (usedArr u)[j]? = none := by rw [Array.getElem?_eq_none]; rw [usedArr_size]; omega
    rw [h1, h2]
    by_cases h : i = j
    · subst h
      rw [if_pos rfl, if_neg hj]
    · rw [if_neg h]

theorem own_set {W : World} {base : Nat} {e : TypeId} {size : Nat} {g n cap : Nat} {xs : List Value} (h : W.ownsRow base e size (.slice (some ⟨g, 0, none⟩) n cap) n xs) (i : Nat) (u : Value) : (W.setCell ⟨g, i, none⟩ u).ownsRow base e size (.slice (some ⟨g, 0, none⟩) n cap) n (xs.set i u) := by
  obtain ⟨h1, ⟨h2, _⟩ | ⟨g', cap', cur, h2, hg, hc, hn, hm, hs, ht⟩⟩ := h
  · cases h2
  · injection h2 with h3 h4 h5
    injection h3 with h3
    injection h3 with h3
    subst h3 h5
    refine ⟨by rw [List.length_set]; exact h1, .inr ⟨g, cap, cur.setIfInBounds i u, rfl, hg, CellsAt.set i u hc, hn, hm, by simpa using hs, ?_⟩⟩
    rw [← ht, Array.toList_setIfInBounds, List.take_set]
theorem flat_set (pre : List (Int × Int)) (a b c : Int) : ((pre ++ [(a, b)]).flatMap runC).set (pre.length * 2 + 1) (.int .i64 c) = (pre ++ [(a, c)]).flatMap runC := by
  have hl : (pre.flatMap runC).length = pre.length * 2 := flat_len (C := runC) (sz := 2) (fun _ => rfl) pre
  rw [List.flatMap_append, List.flatMap_append, List.set_append_right _ _ (by omega), hl]
  have : pre.length * 2 + 1 - pre.length * 2 = 1 := by omega
  rw [this]
  rfl
theorem scan_last {u : Nat → Bool} : ∀ {i : Nat}, u i = false → ∃ pre a b, scan u (i + 1) = pre ++ [(a, b)] ∧ 0 ≤ b ∧ b ≤ (i : Int) + 1
  | 0, h => by
    refine ⟨[], 0, 1, ?_, by omega, by omega⟩
    show scanStep u 0 [] = _
    unfold scanStep
    rw [if_neg (by rw [h]; decide), if_neg (by omega)]
    rfl
  | i + 1, h => by
    have hs : scan u (i + 1 + 1) = scanStep u (i + 1) (scan u (i + 1)) := rfl
    rw [hs]
    unfold scanStep
    rw [if_neg (by rw [h]; decide)]
    cases hu : u i with
    | true =>
      rw [if_neg (by rintro ⟨_, h2⟩; rw [show i + 1 - 1 = i by omega, hu] at h2; cases h2)]
      exact ⟨_, _, _, rfl, by omega, by omega⟩
    | false =>
      rw [if_pos ⟨by omega, by rw [show i + 1 - 1 = i by omega]; exact hu⟩]
      obtain ⟨pre, a, b, h1, h2, h3⟩ := scan_last hu
      rw [h1, bump_snoc]
      exact ⟨pre, a, b + 1, rfl, by omega, by omega⟩
theorem scan_len (u : Nat → Bool) : ∀ i, (scan u i).length ≤ i
  | 0 => Nat.le_refl _
  | i + 1 => by
    have := scan_len u i
    have hs : scan u (i + 1) = scanStep u i (scan u i) := rfl
    rw [hs]
    unfold scanStep
    split
    · omega
    · split
      · rcases List.eq_nil_or_concat (scan u i) with h | ⟨pre, ⟨a, b⟩, h⟩
        · rw [h]; simp [bump]
        · rw [h, List.concat_eq_append, bump_snoc]
          rw [h, List.concat_eq_append] at this
          simp at this ⊢
          omega
      · simp
        omega
/-- What is marked: the first ones' sectors, and the first ones of this one. -/
theorem used_take {l : List PV} {k : Nat} {x : PV} (hx : l[k]? = some x) (n : Nat) : usedBy ((l.take (k + 1)).map PV.plc) n = (usedBy ((l.take k).map PV.plc) n || (decide (x.first ≤ (n : Int)) && decide ((n : Int) < x.first + szM x.mod))) := by
  rw [List.take_add_one, hx]
  unfold usedBy
  simp [PV.plc]

set_option maxHeartbeats 8000000 in
theorem freeOf_any (l : List PV) (v : Value) (w : World) (hrow : IsPlcs w.heap.size w v l) (h0 : chkReg (l.map PV.plc) = 0) :
    Calls Try.prog 21 #[v] w fun e w' => (∃ r, e = .returned r ∧ RowOf 2 runCell w'.heap.size w' r (runsFrom 0 (l.map PV.plc))) ∧ Below w.heap.size w w' := by
  have hat := hrow.2
  obtain ⟨⟨a, cap, rfl, hmax, hrow⟩, _⟩ := hrow
  obtain ⟨h8, hm0, hok⟩ := chkReg_zero.1 h0
  have hx0 : ∀ x ∈ l, x.mod.text.size ≤ 256 ∧ 0 ≤ x.first ∧ x.first + szM x.mod ≤ 16 := by
    intro x hx
    have h1 := okPl_first hok x.plc (List.mem_map_of_mem hx)
    exact ⟨(szM_bd (hm0 x.plc (List.mem_map_of_mem hx))).2.2.1, by exact h1.1, by exact h1.2.2⟩
  have HOK : Hid (okPl 0 (l.map PV.plc)) := hok
  clear h0 hm0 hok h8
  have C1 : CellsAt (w.alloc (.cells #[.bool false, .bool false, .bool false, .bool false, .bool false, .bool false, .bool false, .bool false, .bool false, .bool false, .bool false, .bool false, .bool false, .bool false, .bool false, .bool false] 76)) w.heap.size 76 (usedArr (fun _ => false)) := CellsAt.new _ _ _
  have B1 : Below w.heap.size w (w.alloc (.cells #[.bool false, .bool false, .bool false, .bool false, .bool false, .bool false, .bool false, .bool false, .bool false, .bool false, .bool false, .bool false, .bool false, .bool false, .bool false, .bool false] 76)) := (Below.refl _ _).alloc (Nat.le_refl _) _
  go_enter Try.func21, Try.ntmps21
  go_wp2_with fail
  generalize w.alloc (.cells #[.bool false, .bool false, .bool false, .bool false, .bool false, .bool false, .bool false, .bool false, .bool false, .bool false, .bool false, .bool false, .bool false, .bool false, .bool false, .bool false] 76) = w1 at C1 B1 ⊢
  go_loopw [4] (fun i wr => ∃ (k : Nat) (u : Nat → Bool), k ≤ l.length ∧ i = .int .i64 k ∧ Hid (∀ n, n < 16 → u n = usedBy ((l.take k).map PV.plc) n) ∧ CellsAt wr w.heap.size 76 (usedArr u) ∧ Below w.heap.size w wr) (fun i _ => l.length - (intOf i).toNat)
  case atStart => exact ⟨0, fun _ => false, Nat.zero_le _, rfl, by show ∀ n, n < 16 → false = usedBy ((l.take 0).map PV.plc) n; intro n _; rfl, C1, B1⟩
  case round =>
    obtain ⟨k, u, hk, rfl, HU, C, B⟩ := hrel
    by_cases hlt : k < l.length
    · obtain ⟨x, hx⟩ : ∃ x, l[k]? = some x := ⟨_, List.getElem?_eq_getElem hlt⟩
      rcases hrow with h | ⟨b, off, rfl, hbn, hcells⟩
      · subst h; simp at hlt
      have hxx := hx0 x (List.mem_of_getElem? hx)
      have HS : Hid (∀ W, Calls Try.prog 20 #[x.modV] W fun e w' => e = .returned (.int .i64 (szM x.mod : Int)) ∧ Below W.heap.size W w') := by
        intro W
        obtain ⟨⟨pe, ke, e4, _⟩, ⟨pi, ki, e5, _⟩, ⟨pp, kp, e6, _⟩⟩ := hat x (List.mem_of_getElem? hx)
        unfold PV.modV
        rw [e4, e5, e6]
        exact sizeOf_any _ _ _ _ _ _ _ _ _ _ _ _ _ _ hxx.1
      have HUT : Hid (∀ n, usedBy ((l.take (k + 1)).map PV.plc) n = (usedBy ((l.take k).map PV.plc) n || (decide (x.first ≤ (n : Int)) && decide ((n : Int) < x.first + szM x.mod)))) := used_take hx
      obtain ⟨⟨pe, ke, e4, _⟩, ⟨pi, ki, e5, _⟩, ⟨pp, kp, e6, _⟩⟩ := hat x (List.mem_of_getElem? hx)
      generalize hsz : szM x.mod = sz at *
      obtain ⟨⟨N, ma, mi, T, es, is, ps⟩, ve, vi, vp, fi⟩ := x
      dsimp only at e4 e5 e6
      subst e4 e5 e6
      have q0 := hcells k _ hx 0 (by omega)
      have q1 := hcells k _ hx 1 (by omega)
      have q2 := hcells k _ hx 2 (by omega)
      have q3 := hcells k _ hx 3 (by omega)
      have q4 := hcells k _ hx 4 (by omega)
      have q5 := hcells k _ hx 5 (by omega)
      have q6 := hcells k _ hx 6 (by omega)
      have q7 := hcells k _ hx 7 (by omega)
      dsimp only [PV.cell] at q0 q1 q2 q3 q4 q5 q6 q7
      dsimp only [PV.modV] at HS
      dsimp only at hxx HUT
      rw [Nat.add_zero] at q0
      clear hcells hx hat hsz hx0
      obtain ⟨_, hf0, hf1⟩ := hxx
      generalize es.length = le at *
      generalize is.length = li at *
      generalize ps.length = lp at *
      go_wp2_with fail
      go_loopw [5] (fun j wq => ∃ (m : Nat) (u' : Nat → Bool), m ≤ sz ∧ j = .int .i64 m ∧ Hid (∀ n, n < 16 → u' n = (usedBy ((l.take k).map PV.plc) n || (decide (fi ≤ (n : Int)) && decide ((n : Int) < fi + m)))) ∧ CellsAt wq w.heap.size 76 (usedArr u') ∧ Below w.heap.size w wq) (fun j _ => sz - (intOf j).toNat)
      case atStart =>
        refine ⟨0, u, Nat.zero_le _, rfl, ?_, C, B⟩
        show ∀ n, n < 16 → u n = (usedBy ((l.take k).map PV.plc) n || (decide (fi ≤ (n : Int)) && decide ((n : Int) < fi + (0 : Nat))))
        intro n hn
        rw [HU.out n hn]
        have : (decide (fi ≤ (n : Int)) && decide ((n : Int) < fi + (0 : Nat))) = false := by simp
        rw [this, Bool.or_false]
      case round =>
        obtain ⟨m, u', hm, rfl, HU', C', B'⟩ := hrel
        have c0 := (B'.cell (p := ⟨b, off + k * 8, none⟩) hbn).trans q0
        have c1 := (B'.cell (p := ⟨b, off + k * 8 + 1, none⟩) hbn).trans q1
        have c2 := (B'.cell (p := ⟨b, off + k * 8 + 2, none⟩) hbn).trans q2
        have c3 := (B'.cell (p := ⟨b, off + k * 8 + 3, none⟩) hbn).trans q3
        have c4 := (B'.cell (p := ⟨b, off + k * 8 + 4, none⟩) hbn).trans q4
        have c5 := (B'.cell (p := ⟨b, off + k * 8 + 5, none⟩) hbn).trans q5
        have c6 := (B'.cell (p := ⟨b, off + k * 8 + 6, none⟩) hbn).trans q6
        go_wp2_with fail
        refine (HS.out _).mono ?_
        rintro e w3 ⟨rfl, b3⟩
        have B3 := B'.trans (b3.mono B'.size)
        have C3 := C'.below b3 C'.lt
        clear c0 c1 c2 c3 c4 c5 c6 C' b3
        by_cases hms : m < sz
        · obtain ⟨n, hn⟩ : ∃ n : Nat, fi + (m : Int) = (n : Int) := ⟨(fi + m).toNat, by omega⟩
          have hn16 : n < 16 := by omega
          have d7 := (B3.cell (p := ⟨b, off + k * 8 + 7, none⟩) hbn).trans q7
          have t1 := (C3.cell n).trans (usedArr_get u' hn16)
          have t2 := C3.frozen n
          have HU2 : Hid (∀ j, j < 16 → (decide (j = n) || u' j) = (usedBy ((l.take k).map PV.plc) j || (decide (fi ≤ (j : Int)) && decide ((j : Int) < fi + ((m + 1 : Nat) : Int))))) := by
            intro j hj
            rw [HU'.out j hj]
            by_cases hjn : j = n
            · subst hjn
              have : (decide (fi ≤ (j : Int)) && decide ((j : Int) < fi + ((m + 1 : Nat) : Int))) = true := by simp; omega
              rw [this]
              simp
            · rw [decide_eq_false hjn, Bool.false_or]
              congr 1
              congr 1
              apply decide_eq_decide.2
              omega
          have HC4 : Hid (CellsAt (w3.setCell ⟨w.heap.size, n, none⟩ (.bool true)) w.heap.size 76 (usedArr (fun j => decide (j = n) || u' j))) := by
            have := CellsAt.set n (.bool true) C3
            rw [usedArr_set] at this
            exact this
          have HB4 : Hid (Below w.heap.size w (w3.setCell ⟨w.heap.size, n, none⟩ (.bool true))) := B3.setCell (Nat.le_refl _) _
          clear C3
          go_wp2
          exact ⟨⟨m + 1, _, by omega, by go_num, HU2.out, HC4.out, HB4.out⟩, by simp [intOf]; omega⟩
        · obtain rfl : m = sz := by omega
          have HU2 : Hid (∀ n, n < 16 → u' n = usedBy ((l.take (k + 1)).map PV.plc) n) := by
            intro n hn
            rw [HU'.out n hn, HUT.out]
          clear HU' HUT HU
          go_wp2
          exact ⟨⟨k + 1, u', by omega, by go_num, HU2.out, C3, B3⟩, by simp [intOf]; omega⟩
    · obtain rfl : k = l.length := by omega
      have HSC : Hid (scan u 16 = runsFrom 0 (l.map PV.plc)) := by
        have := scan_runs (u := u) (l := l.map PV.plc) (e := 0) HOK.out (.inl rfl) (fun j _ hj => by rw [HU.out j hj, List.take_length])
        rw [show scan u 0 = [] from rfl, List.nil_append] at this
        exact this
      obtain ⟨ii, hii, hz0, hz1, hz2⟩ := infoRun_parts
      clear HU HOK hx0
      go_wp2_with fail
      rename World => w5
      go_loopw [6, 7] (fun f i wr => ∃ (k : Nat), k ≤ 16 ∧ i = .int .i64 k ∧ wr.ownsRow w5.heap.size 55 2 f (scan u k).length ((scan u k).flatMap runC) ∧ Below w5.heap.size w5 wr) (fun _ i _ => 16 - (intOf i).toNat)
      case atStart => exact ⟨0, by omega, rfl, ⟨rfl, .inl ⟨rfl, rfl⟩⟩, Below.refl _ _⟩
      case round =>
        obtain ⟨k, hk, rfl, hown, Bq⟩ := hrel
        by_cases hk16 : k < 16
        · have Cq := C.below Bq C.lt
          have t0 := (Cq.cell k).trans (usedArr_get u hk16)
          have hlen := scan_len u k
          have hb5 : w5.heap.size ≤ wr.heap.size := Bq.size
          have HST : Hid (scan u (k + 1) = scanStep u k (scan u k)) := (rfl : scan u (k + 1) = scanStep u k (scan u k))
          have hdk : decide ((k : Int) < 16) = true := decide_eq_true (by omega)
          cases huk : u k with
          | true =>
            rw [huk] at t0
            have HNX : Hid (scan u (k + 1) = scan u k) := by
              show scan u (k + 1) = scan u k
              rw [HST.out]
              unfold scanStep
              rw [if_pos huk]
            obtain ⟨av, kv, rfl⟩ := own_form hown
            have HO : Hid (wr.ownsRow w5.heap.size 55 2 (.slice av (scan u k).length kv) (scan u (k + 1)).length ((scan u (k + 1)).flatMap runC)) := by
              show wr.ownsRow w5.heap.size 55 2 (.slice av (scan u k).length kv) (scan u (k + 1)).length ((scan u (k + 1)).flatMap runC)
              rw [HNX.out]
              exact hown
            clear hown HST huk Cq HNX
            generalize (scan u k).length = n at *
            go_wp2
            exact ⟨⟨k + 1, by omega, by go_num, HO.out, Bq⟩, by simp [intOf]; omega⟩
          | false =>
            rw [huk] at t0
            rcases Nat.eq_zero_or_pos k with hk0 | hkp
            · subst hk0
              have HNX : Hid (scan u (0 + 1) = scan u 0 ++ [(((0 : Nat) : Int), 1)]) := by
                show scan u (0 + 1) = _
                rw [HST.out]
                unfold scanStep
                rw [if_neg (by rw [huk]; decide), if_neg (by omega)]
              clear HST huk Cq
              have HN : Hid ((scan u 0).length = 0) := (rfl : (scan u 0).length = 0)
              have hown' : wr.ownsRow w5.heap.size 55 2 _ 0 ([] : List Value) := hown
              obtain ⟨av, kv, rfl⟩ := own_form hown'
              clear hown
              go_wp2_with (at_builtin; refine wpList_append_lies _ rfl _ _ _ rfl w5.heap.size 55 ii _ 2 16 Try.underlying43 hii hz0 hz1 hz2 rfl (by omega) (.slice av 0 kv) 0 [] rfl (hown'.alloc _) ⟨wr.heap.size, 0, none⟩ 1 1 [.int .i64 0, .int .i64 1] rfl rfl (World.news_of_block (cs := #[.int .i64 0, .int .i64 1]) (t := 55) (fr := (0, 0)) (CellsAt.new wr 55 #[.int .i64 0, .int .i64 1])) (by simp [Value.oneCell']) (by omega) (by unfold maxLen; omega) (by omega) (by simp; omega) (wr.heap.size + 1) (by simp) ?_; intro g gc w8 hown8 hgrow hat hltg)
              refine ⟨⟨1, by omega, by go_num, ?_, ?_⟩, by simp [intOf]⟩
              · rw [show scan u 1 = scan u 0 ++ [(((0 : Nat) : Int), 1)] from HNX.out]
                exact hown8
              · exact (Bq.alloc Bq.size _).grown hgrow (by simp; omega) (fun j hj => own_block hown' j hj)
            · obtain ⟨m, hkm⟩ : ∃ m, k = m + 1 := ⟨k - 1, by omega⟩
              have hm16 : m < 16 := by omega
              have t1 := (Cq.cell m).trans (usedArr_get u hm16)
              have hi0 : (k : Int) - 1 = (m : Int) := by omega
              have hkp' : (0 : Int) < (k : Int) := by omega
              have HKM : Hid (k = m + 1) := hkm
              clear hkm
              cases hum : u m with
              | true =>
                rw [hum] at t1
                have HNX : Hid (scan u (k + 1) = scan u k ++ [((k : Int), 1)]) := by
                  show scan u (k + 1) = _
                  rw [HST.out]
                  unfold scanStep
                  rw [if_neg (by rw [huk]; decide), if_neg (by rintro ⟨_, h2⟩; rw [show k - 1 = m by have := HKM.out; omega, hum] at h2; cases h2)]
                clear HST huk Cq hum
                generalize hacc : scan u k = acc at *
                clear hacc
                obtain ⟨n, hn⟩ : ∃ n, acc.length = n := ⟨_, rfl⟩
                have HN : Hid (acc.length = n) := hn
                rw [hn] at hown hlen
                clear hn
                obtain ⟨av, kv, rfl⟩ := own_form hown
                go_wp2_with (at_builtin; refine wpList_append_lies _ rfl _ _ _ rfl w5.heap.size 55 ii _ 2 16 Try.underlying43 hii hz0 hz1 hz2 rfl (by omega) (.slice av n kv) n (acc.flatMap runC) rfl (hown.alloc _) ⟨wr.heap.size, 0, none⟩ 1 1 [.int .i64 k, .int .i64 1] rfl rfl (World.news_of_block (cs := #[.int .i64 k, .int .i64 1]) (t := 55) (fr := (0, 0)) (CellsAt.new wr 55 #[.int .i64 k, .int .i64 1])) (by simp [Value.oneCell']) (by omega) (by unfold maxLen; omega) (by omega) (by simp; omega) (wr.heap.size + 1) (by simp) ?_; intro g gc w8 hown8 hgrow hat hltg)
                refine ⟨⟨k + 1, by omega, by go_num, ?_, ?_⟩, by simp [intOf]; omega⟩
                · rw [HNX.out, List.length_append, List.flatMap_append, HN.out]
                  exact hown8
                · exact (Bq.alloc Bq.size _).grown hgrow (by simp; omega) (fun j hj => own_block hown j hj)
              | false =>
                rw [hum] at t1
                obtain ⟨pre, pa, pb, hs1, hb0, hb1⟩ := scan_last hum
                rw [← HKM.out] at hs1
                have HNX : Hid (scan u (k + 1) = pre ++ [(pa, pb + 1)]) := by
                  show scan u (k + 1) = _
                  rw [HST.out]
                  unfold scanStep
                  rw [if_neg (by rw [huk]; decide), if_pos ⟨hkp, by rw [show k - 1 = m by have := HKM.out; omega]; exact hum⟩, hs1, bump_snoc]
                rw [hs1] at hown hlen
                clear HST huk Cq hum hs1
                rcases hown.2 with ⟨_, hz⟩ | ⟨g, cp, cur, hv, hg, hc, hn, hm, hsz, htk⟩
                · simp at hz
                subst hv
                have Cg : CellsAt wr g 55 cur := hc
                have hcell : wr.cell? ⟨g, pre.length * 2 + 1, none⟩ = some (.int .i64 pb) := by
                  have h1 : ((pre ++ [(pa, pb)]).flatMap runC)[pre.length * 2 + 1]? = some (.int .i64 pb) := by
                    have := flat_at (C := runC) (sz := 2) (fun _ => rfl) (pre ++ [(pa, pb)]) pre.length (pa, pb) 1 (by simp) (by omega)
                    rw [this]; rfl
                  have := hown.cells (g := g) rfl (pre.length * 2 + 1) _ h1
                  have hadd : (⟨g, 0, none⟩ : Addr).add (pre.length * 2 + 1) = ⟨g, pre.length * 2 + 1, none⟩ := by unfold Addr.add; split <;> simp_all
                  rw [hadd] at this
                  exact this
                have hfr := Cg.frozen (pre.length * 2 + 1)
                have HO : Hid ((wr.setCell ⟨g, pre.length * 2 + 1, none⟩ (.int .i64 (pb + 1))).ownsRow w5.heap.size 55 2 (.slice (some ⟨g, 0, none⟩) (pre ++ [(pa, pb)]).length cp) (scan u (k + 1)).length ((scan u (k + 1)).flatMap runC)) := by
                  have := own_set hown (pre.length * 2 + 1) (.int .i64 (pb + 1))
                  rw [flat_set] at this
                  show (wr.setCell ⟨g, pre.length * 2 + 1, none⟩ (.int .i64 (pb + 1))).ownsRow w5.heap.size 55 2 (.slice (some ⟨g, 0, none⟩) (pre ++ [(pa, pb)]).length cp) (scan u (k + 1)).length ((scan u (k + 1)).flatMap runC)
                  rw [HNX.out]
                  simpa using this
                have HB : Hid (Below w5.heap.size w5 (wr.setCell ⟨g, pre.length * 2 + 1, none⟩ (.int .i64 (pb + 1)))) := Bq.setCell hg _
                have hnl : ((pre ++ [(pa, pb)]).length : Int) - 1 = (pre.length : Int) := by simp
                have hnl2 : pre.length < (pre ++ [(pa, pb)]).length := by simp
                have hpl : (pre ++ [(pa, pb)]).length ≤ 16 := by omega
                clear hown Cg hc hn hm hsz htk HNX
                generalize (pre ++ [(pa, pb)]).length = n at *
                generalize pre.length = p at *
                go_wp2
                exact ⟨⟨k + 1, by omega, by go_num, HO.out, HB.out⟩, by simp [intOf]; omega⟩
        · obtain rfl : k = 16 := by omega
          obtain ⟨av, kv, rfl⟩ := own_form hown
          have HR : Hid (RowOf 2 runCell wr.heap.size wr (.slice av (scan u 16).length kv) (runsFrom 0 (l.map PV.plc))) := by
            have := own_rows (C := runC) (cells := runCell) (sz := 2) (fun _ => rfl) runC_at hown (Nat.le_trans (scan_len u 16) (by omega))
            show RowOf 2 runCell wr.heap.size wr (.slice av (scan u 16).length kv) (runsFrom 0 (l.map PV.plc))
            rw [HSC.out] at this ⊢
            exact this
          have HBB : Hid (Below w.heap.size w wr) := B.trans (Bq.mono B.size)
          clear hown
          go_wp2
          go_ret
          exact ⟨⟨_, rfl, HR.out⟩, HBB.out⟩

def fitRes (o : Option (Int × Int)) : Int := match o with | none => -1 | some r => r.1

set_option maxHeartbeats 2000000 in
theorem fitOf_any (l : List PV) (v : Value) (many : Int) (w : World) (hrow : IsPlcs w.heap.size w v l) (h0 : chkReg (l.map PV.plc) = 0) :
    Calls Try.prog 22 #[v, .int .i64 many] w fun e w' => e = .returned (.int .i64 (fitRes (fitOf many (runsFrom 0 (l.map PV.plc))))) ∧ Below w.heap.size w w' := by
  have HF : Hid (∀ W, Below w.heap.size w W → Calls Try.prog 21 #[v] W fun e w' => (∃ r, e = .returned r ∧ RowOf 2 runCell w'.heap.size w' r (runsFrom 0 (l.map PV.plc))) ∧ Below W.heap.size W w') := fun W hb => freeOf_any l v W ((hrow.below hb).more hb.size) h0
  obtain ⟨⟨a, cap, rfl, _, _⟩, _⟩ := hrow
  clear h0
  generalize runsFrom 0 (l.map PV.plc) = FR at *
  generalize l.length = ll at *
  go_enter Try.func22, Try.ntmps22
  go_wp2_with fail
  refine (HF.out w (Below.refl _ _)).mono ?_
  rintro e w1 ⟨⟨r, rfl, hR⟩, B1⟩
  clear HF
  obtain ⟨ar, kr, rfl, hml, hR⟩ := hR
  go_wp2_with fail
  go_loopw [6] (fun i wr => ∃ (k : Nat), k ≤ FR.length ∧ i = .int .i64 k ∧ Hid (fitOf many FR = fitOf many (FR.drop k)) ∧ wr = w1) (fun i _ => FR.length - (intOf i).toNat)
  case atStart => exact ⟨0, Nat.zero_le _, rfl, by show fitOf many FR = fitOf many (FR.drop 0); rfl, rfl⟩
  case round =>
    obtain ⟨k, hk, rfl, HC, rfl⟩ := hrel
    by_cases hlt : k < FR.length
    · obtain ⟨x, hx⟩ : ∃ x, FR[k]? = some x := ⟨_, List.getElem?_eq_getElem hlt⟩
      rcases hR with h | ⟨b, off, rfl, hbn, hcells⟩
      · subst h; simp at hlt
      have c0 := hcells k _ hx 0 (by omega)
      have c1 := hcells k _ hx 1 (by omega)
      have HR : Hid (fitOf many FR = if many ≤ x.2 then some x else fitOf many (FR.drop (k + 1))) := by
        show fitOf many FR = _
        rw [HC.out, drop_at hx]
        unfold fitOf
        rw [List.find?_cons]
        by_cases h : many ≤ x.2
        · rw [if_pos h, decide_eq_true h]
        · rw [if_neg h, decide_eq_false h]
      obtain ⟨x1, x2⟩ := x
      dsimp only [runCell] at c0 c1 HR
      rw [Nat.add_zero] at c0
      clear HC hcells hx
      by_cases h : many ≤ x2
      · have HZ : Hid (fitOf many FR = some (x1, x2)) := by
          show fitOf many FR = _
          rw [HR.out, if_pos h]
        clear HR
        go_wp2
        go_ret
        exact ⟨by rw [HZ.out]; rfl, B1⟩
      · have h' : decide (many ≤ x2) = false := decide_eq_false h
        have HZ : Hid (fitOf many FR = fitOf many (FR.drop (k + 1))) := by
          show fitOf many FR = _
          rw [HR.out, if_neg h]
        clear HR
        go_wp2
        exact ⟨⟨k + 1, by omega, by go_num, HZ.out, by first | rfl | trivial⟩, by simp [intOf]; omega⟩
    · obtain rfl : k = FR.length := by omega
      have HZ : Hid (fitOf many FR = none) := by
        show fitOf many FR = none
        rw [HC.out, List.drop_length]; rfl
      go_wp2
      go_ret
      exact ⟨by rw [HZ.out]; rfl, B1⟩

end Go.Proofs.Ytaklbnabgcglhac
