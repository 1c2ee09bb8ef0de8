/- Texts that are laid together. -/
import Derived.Test.YthmohjgdcjafkagMrgP
import Derived.Test.YthmohjgdcjafkagMrgM

/- The contract of the document's TornOf. -/
namespace Go.Proofs.Ythmohjgdcjafkag
open Go.RowKit Go.PlainAid Go.Lib

set_option maxRecDepth 100000

/-- Bits that stay as they were. -/
def keepB (d : Deed) (p : ByteArray) (i : Nat) : UInt8 :=
  if d.kind = 1 ∧ p.size ≠ 0 then p.data.toList.getD 0 0 else if d.kind = 2 ∧ i < p.size then 255 - p.data.toList.getD i 0 else 255
def tornK (d : Deed) (p : ByteArray) (s : List UInt8) (k : Nat) (c : List UInt8) : List UInt8 := c.mapIdx fun j b => if j < k then mixB (s.getD j 0) b (keepB d p j) else b
def tornL (F : List ByteArray) (d : Deed) (p : ByteArray) : List UInt8 := tornK d p (F.getD (dBlk d) ⟨#[]⟩).data.toList 128 (dBytes F d)
def tornB (F : List ByteArray) (d : Deed) (p : ByteArray) : List ByteArray := F.set (dBlk d) ⟨(tornL F d p).toArray⟩

theorem tornK_length (d : Deed) (p : ByteArray) (s : List UInt8) (k : Nat) (c : List UInt8) : (tornK d p s k c).length = c.length := by unfold tornK; rw [List.length_mapIdx]
theorem tornK_at (d : Deed) (p : ByteArray) (s : List UInt8) (k : Nat) (c : List UInt8) (j : Nat) : (tornK d p s k c)[j]? = (c[j]?).map fun b => if j < k then mixB (s.getD j 0) b (keepB d p j) else b := by
  unfold tornK
  rw [List.getElem?_mapIdx]
theorem tornK_zero (d : Deed) (p : ByteArray) (s : List UInt8) (c : List UInt8) : tornK d p s 0 c = c := by
  apply List.ext_getElem?
  intro j
  rw [tornK_at]
  cases c[j]? with
  | none => rfl
  | some b => simp only [Option.map_some]; rw [if_neg (by omega)]
theorem tornK_next (d : Deed) (p : ByteArray) (s : List UInt8) (k : Nat) (c : List UInt8) (b : UInt8) (h : c[k]? = some b) : (tornK d p s k c).set k (mixB (s.getD k 0) b (keepB d p k)) = tornK d p s (k + 1) c := by
  apply List.ext_getElem?
  intro j
  rw [List.getElem?_set, tornK_at, tornK_at, tornK_length]
  by_cases hj : k = j
  · subst hj
    rw [if_pos rfl, h]
    have hlt : k < c.length := (List.getElem?_eq_some_iff.1 h).1
    rw [if_pos hlt]
    simp only [Option.map_some]
    rw [if_pos (by omega)]
  · rw [if_neg hj]
    cases c[j]? with
    | none => rfl
    | some x =>
      simp only [Option.map_some]
      by_cases h1 : j < k
      · rw [if_pos h1, if_pos (by omega)]
      · rw [if_neg h1, if_neg (by omega)]
theorem tornK_same (d : Deed) (p : ByteArray) (s : List UInt8) (k : Nat) (c : List UInt8) : (tornK d p s k c)[k]? = c[k]? := by
  rw [tornK_at]
  cases c[k]? with
  | none => rfl
  | some x => simp only [Option.map_some]; rw [if_neg (by omega)]

set_option maxHeartbeats 8000000 in
theorem rTorn_any (F : List ByteArray) (v : Value) (d : Deed) (pt : ByteArray) (w : World) (hF : RowOf 1 strCell w.heap.size w v F) (hf : chkFl F = 0) (h0 : chkDeed (F.length * 128) d = 0) (hp : pt.size ≤ 9223372036854775807) :
    Calls Try.prog 14 #[.agg #[v], d.value, .string pt] w fun e w' => (∃ r, e = .returned (.agg #[r]) ∧ w'.ownsRow w.heap.size 9 1 r F.length ((tornB F d pt).flatMap strC) ∧ GoodF F.length (tornB F d pt)) ∧ Below w.heap.size w w' := by
  have hG0 : GoodF F.length F := goodF_iff.1 hf
  have hblk : dBlk d < F.length := dBlk_lt h0
  have hkd : d.kind = 1 ∨ d.kind = 2 := by rcases (deed_right h0).2.2.2.2 with ⟨h, _⟩ | ⟨h, _⟩ <;> simp [h]
  obtain ⟨x, hx⟩ : ∃ x, F[dBlk d]? = some x := ⟨_, List.getElem?_eq_getElem hblk⟩
  have hxs : x.size = 128 := hG0.2.2.2 x (List.mem_of_getElem? hx)
  have HT : Hid (tornB F d pt = F.set (dBlk d) ⟨(tornK d pt x.data.toList 128 (dBytes F d)).toArray⟩) := by
    show tornB F d pt = _
    unfold tornB tornL
    rw [List.getD_eq_getElem?_getD, hx]
    rfl
  have HCD : Hid (∀ W, Below w.heap.size w W → Calls Try.prog 27 #[.agg #[v], d.value] W fun e w' => (∃ g cap, e = .returned (.tuple #[.int .i64 (dBlk d : Int), .slice (some ⟨g, 0, none⟩) 128 cap]) ∧ CellsB w' g (dBytes F d) ∧ (dBytes F d).length = 128 ∧ W.heap.size ≤ g ∧ 128 ≤ cap ∧ cap ≤ 9223372036854775807) ∧ Below W.heap.size W w') := fun W hb => rDeedBytes_any F v d W ((hF.below hb).more hb.size) hf h0
  have HGN : Hid ((dBytes F d).length = 128 → GoodF F.length (tornB F d pt)) := fun h => by
    rw [HT.out]
    exact hG0.set _ _ (by rw [size_mk, tornK_length, h])
  obtain ⟨a, cap, rfl, hmx, hrow⟩ := hF
  have hn1 : 1 ≤ F.length := hG0.2.1
  have hn2 : F.length ≤ 32 := hG0.2.2.1
  rcases hrow with h | ⟨b, off, rfl, hbn, hcells⟩
  · subst h; simp at hn1
  have HCL : Hid (∀ j x, F[j]? = some x → w.cell? ⟨b, off + j, none⟩ = some (.string x)) := fun j x hx => by
    have := hcells j x hx 0 (by omega)
    rw [Nat.mul_one, Nat.add_zero] at this
    exact this
  have HX0 : Hid (w.cell? ⟨b, off + dBlk d, none⟩ = some (.string x)) := HCL.out _ x hx
  have HKB : Hid (∀ i, keepB d pt i = if d.kind = 1 ∧ pt.size ≠ 0 then pt.data.toList.getD 0 0 else if d.kind = 2 ∧ i < pt.size then 255 - pt.data.toList.getD i 0 else 255) := fun i => rfl
  have HK0 : Hid (∀ c, tornK d pt x.data.toList 0 c = c) := fun c => tornK_zero d pt _ c
  have HKN : Hid (∀ k c b, c[k]? = some b → (tornK d pt x.data.toList k c).set k (mixB (x.data.toList.getD k 0) b (keepB d pt k)) = tornK d pt x.data.toList (k + 1) c) := fun k c b h => tornK_next d pt _ k c b h
  have HKS : Hid (∀ k c, (tornK d pt x.data.toList k c)[k]? = c[k]?) := fun k c => tornK_same d pt _ k c
  have HKL : Hid (∀ k c, (tornK d pt x.data.toList k c).length = c.length) := fun k c => tornK_length d pt _ k c
  clear hcells hx h0 hf hG0
  generalize tornB F d pt = R at *
  generalize tornK d pt x.data.toList = TK at *
  generalize keepB d pt = kB at *
  generalize dBytes F d = DB at *
  generalize dBlk d = q at *
  obtain ⟨kd, ps, dv⟩ := d
  unfold Deed.value at *
  dsimp only at *
  have HB1 : Hid (Below w.heap.size w ((((w.alloc (.cells #[.slice (some ⟨b, off, none⟩) F.length cap] 26)).alloc (.cells #[.int .i64 kd, .int .i64 ps, .int .i64 dv] 40)).alloc (.cells #[.slice none 0 0] 26)).alloc (.cells #[] 9))) := ((((Below.refl _ _).alloc (Nat.le_refl _) _).alloc (by simp) _).alloc (by simp; omega) _).alloc (by simp; omega) _
  have HF1 : Hid (CellsAt ((((w.alloc (.cells #[.slice (some ⟨b, off, none⟩) F.length cap] 26)).alloc (.cells #[.int .i64 kd, .int .i64 ps, .int .i64 dv] 40)).alloc (.cells #[.slice none 0 0] 26)).alloc (.cells #[] 9)) w.heap.size 26 #[.slice (some ⟨b, off, none⟩) F.length cap]) :=
    (((CellsAt.new w 26 #[.slice (some ⟨b, off, none⟩) F.length cap]).kept (World.grownBy_alloc _ _ none) (by simp)).kept (World.grownBy_alloc _ _ none) (by simp)).kept (World.grownBy_alloc _ _ none) (by simp)
  have HD1 : Hid (CellsAt ((((w.alloc (.cells #[.slice (some ⟨b, off, none⟩) F.length cap] 26)).alloc (.cells #[.int .i64 kd, .int .i64 ps, .int .i64 dv] 40)).alloc (.cells #[.slice none 0 0] 26)).alloc (.cells #[] 9)) (w.heap.size + 1) 40 #[.int .i64 kd, .int .i64 ps, .int .i64 dv]) := by
    have := CellsAt.new (w.alloc (.cells #[.slice (some ⟨b, off, none⟩) F.length cap] 26)) 40 #[.int .i64 kd, .int .i64 ps, .int .i64 dv]
    rw [World.size_alloc] at this
    exact (this.kept (World.grownBy_alloc _ _ none) (by simp)).kept (World.grownBy_alloc _ _ none) (by simp)
  have HR1 : Hid (CellsAt ((((w.alloc (.cells #[.slice (some ⟨b, off, none⟩) F.length cap] 26)).alloc (.cells #[.int .i64 kd, .int .i64 ps, .int .i64 dv] 40)).alloc (.cells #[.slice none 0 0] 26)).alloc (.cells #[] 9)) (w.heap.size + 1 + 1) 26 #[.slice none 0 0]) := by
    have := CellsAt.new ((w.alloc (.cells #[.slice (some ⟨b, off, none⟩) F.length cap] 26)).alloc (.cells #[.int .i64 kd, .int .i64 ps, .int .i64 dv] 40)) 26 #[.slice none 0 0]
    simp only [World.size_alloc] at this
    exact this.kept (World.grownBy_alloc _ _ none) (by simp)
  have HE1 : Hid (CellsAt ((((w.alloc (.cells #[.slice (some ⟨b, off, none⟩) F.length cap] 26)).alloc (.cells #[.int .i64 kd, .int .i64 ps, .int .i64 dv] 40)).alloc (.cells #[.slice none 0 0] 26)).alloc (.cells #[] 9)) (w.heap.size + 1 + 1 + 1) 9 #[]) := by
    have := CellsAt.new (((w.alloc (.cells #[.slice (some ⟨b, off, none⟩) F.length cap] 26)).alloc (.cells #[.int .i64 kd, .int .i64 ps, .int .i64 dv] 40)).alloc (.cells #[.slice none 0 0] 26)) 9 #[]
    simp only [World.size_alloc] at this
    exact this
  go_enter Try.func14, Try.ntmps14
  go_wp2_with (at_builtin; refine copyStr rfl hn1 (by omega) (fun j x hx => (HB1.out.cell (p := ⟨b, off + j, none⟩) hbn).trans (HCL.out j x hx)) HE1.out rfl _ _ rfl rfl rfl ?_; intro g gc w3 hown hgr; have HFq : Hid (CellsAt w3 w.heap.size 26 #[.slice (some ⟨b, off, none⟩) F.length cap]) := HF1.out.kept hgr (by intro e; injection e with e; omega); have HDq : Hid (CellsAt w3 (w.heap.size + 1) 40 #[.int .i64 kd, .int .i64 ps, .int .i64 dv]) := HD1.out.kept hgr (by intro e; injection e with e; omega); have qf := HFq.out.cell 0; have qd0 := HDq.out.cell 0; have qd1 := HDq.out.cell 1; have qd2 := HDq.out.cell 2; simp at qf qd0 qd1 qd2; have ql1 : w.heap.size + 1 < w3.heap.size := HDq.out.lt; have ql0 : w.heap.size < w3.heap.size := HFq.out.lt)
  have hgl : g < w3.heap.size := own_lt hown
  have HB3 : Hid (Below w.heap.size w w3) := HB1.out.grown hgr (by have := HB1.out.size; exact this) (fun k e => by injection e with e; omega)
  have HR3 : Hid (CellsAt w3 (w.heap.size + 1 + 1) 26 #[.slice none 0 0]) := HR1.out.kept hgr (by intro e; injection e with e; omega)
  have ga := World.grownBy_alloc w3 (.cells #[.slice (some ⟨g, 0, none⟩) F.length gc] 26) none
  have HO4 : Hid ((w3.alloc (.cells #[.slice (some ⟨g, 0, none⟩) F.length gc] 26)).ownsRow (w.heap.size + 1 + 1 + 1) 9 1 (.slice (some ⟨g, 0, none⟩) F.length gc) F.length (F.flatMap strC)) := hown.alloc _
  have HX4 : Hid (CellsAt (w3.alloc (.cells #[.slice (some ⟨g, 0, none⟩) F.length gc] 26)) w3.heap.size 26 #[.slice (some ⟨g, 0, none⟩) F.length gc]) := CellsAt.new _ _ _
  have HR4 : Hid (CellsAt (w3.alloc (.cells #[.slice (some ⟨g, 0, none⟩) F.length gc] 26)) (w.heap.size + 1 + 1) 26 #[.slice none 0 0]) := HR3.out.kept ga (by simp)
  have HF4 : Hid (CellsAt (w3.alloc (.cells #[.slice (some ⟨g, 0, none⟩) F.length gc] 26)) w.heap.size 26 #[.slice (some ⟨b, off, none⟩) F.length cap]) := HFq.out.kept ga (by simp)
  have HD4 : Hid (CellsAt (w3.alloc (.cells #[.slice (some ⟨g, 0, none⟩) F.length gc] 26)) (w.heap.size + 1) 40 #[.int .i64 kd, .int .i64 ps, .int .i64 dv]) := HDq.out.kept ga (by simp)
  have HB4 : Hid (Below w.heap.size w (w3.alloc (.cells #[.slice (some ⟨g, 0, none⟩) F.length gc] 26))) := HB3.out.alloc HB3.out.size _
  have hXl : w.heap.size + 1 + 1 < w3.heap.size := HR3.out.lt
  clear hown hgr HB1 HR1 HE1 HB3 HR3 HFq HDq HF1 HD1 qf qd0 qd1 qd2 ga
  refine (HCD.out _ HB4.out).mono ?_
  rintro e w6 ⟨⟨g2, c2, rfl, hC6, hl6, hg6, hc6, hm6⟩, b6⟩
  have HO6 : Hid (w6.ownsRow (w.heap.size + 1 + 1 + 1) 9 1 (.slice (some ⟨g, 0, none⟩) F.length gc) F.length (F.flatMap strC)) := own_below HO4.out b6
  have HX6 : Hid (CellsAt w6 w3.heap.size 26 #[.slice (some ⟨g, 0, none⟩) F.length gc]) := HX4.out.below b6 HX4.out.lt
  have HR6 : Hid (CellsAt w6 (w.heap.size + 1 + 1) 26 #[.slice none 0 0]) := HR4.out.below b6 HR4.out.lt
  have HF6 : Hid (CellsAt w6 w.heap.size 26 #[.slice (some ⟨b, off, none⟩) F.length cap]) := HF4.out.below b6 HF4.out.lt
  have HD6 : Hid (CellsAt w6 (w.heap.size + 1) 40 #[.int .i64 kd, .int .i64 ps, .int .i64 dv]) := HD4.out.below b6 HD4.out.lt
  have HB6 : Hid (Below w.heap.size w w6) := HB4.out.trans (b6.mono HB4.out.size)
  have HC6 : Hid (CellsB w6 g2 (TK 0 DB)) := by show CellsB w6 g2 _; rw [HK0.out]; exact hC6
  have HL6 : Hid (DB.length = 128) := hl6
  have hg2 : w3.heap.size < g2 := by have := HX4.out.lt; omega
  clear hC6 hl6 hg6 b6 HO4 HX4 HR4 HF4 HD4 HB4 HCD HK0
  generalize hX : w3.heap.size = X at *
  clear hX
  go_wp2
  go_loopw [10] (fun i wr => ∃ (k : Nat), k ≤ 128 ∧ i = .int .i64 k ∧ Hid (CellsB wr g2 (TK k DB)) ∧ Hid (wr.ownsRow (w.heap.size + 1 + 1 + 1) 9 1 (.slice (some ⟨g, 0, none⟩) F.length gc) F.length (F.flatMap strC)) ∧ Hid (CellsAt wr X 26 #[.slice (some ⟨g, 0, none⟩) F.length gc]) ∧ Hid (CellsAt wr (w.heap.size + 1 + 1) 26 #[.slice none 0 0]) ∧ Hid (CellsAt wr w.heap.size 26 #[.slice (some ⟨b, off, none⟩) F.length cap]) ∧ Hid (CellsAt wr (w.heap.size + 1) 40 #[.int .i64 kd, .int .i64 ps, .int .i64 dv]) ∧ Hid (Below w.heap.size w wr)) (fun i _ => 128 - (intOf i).toNat)
  case atStart => exact ⟨0, by omega, rfl, HC6, HO6, HX6, HR6, HF6, HD6, HB6⟩
  case round =>
    obtain ⟨k, hk, rfl, HC, HO, HX, HR, HFF, HD, HB⟩ := hrel
    clear HC6 HO6 HX6 HR6 HF6 HD6 HB6
    by_cases hlt : k < 128
    · have f0 := HFF.out.cell 0
      have d0 := HD.out.cell 0
      simp at f0 d0
      have x0 := (HB.out.cell (p := ⟨b, off + q, none⟩) hbn).trans HX0.out
      have hkx : k < x.size := by omega
      obtain ⟨sw, hsw⟩ : ∃ sw, x.data.toList.getD k 0 = sw := ⟨_, rfl⟩
      have HSW : Hid (x.data.toList.getD k 0 = sw) := hsw
      have hidx : (x[k].toNat : Int) = (sw.toNat : Int) := by
        rw [← hsw, List.getD_eq_getElem?_getD, List.getElem?_eq_getElem (by simpa using hkx)]
        rfl
      have hkDB : k < DB.length := by have := HL6.out; omega
      obtain ⟨y, hy⟩ : ∃ y, DB[k]? = some y := ⟨_, List.getElem?_eq_getElem hkDB⟩
      have y0 := HC.out.holds k y (by rw [HKS.out]; exact hy)
      have y1 := HC.out.free k (by rw [HKL.out]; exact hkDB)
      have HN : Hid ((TK k DB).set k (mixB sw y (kB k)) = TK (k + 1) DB) := by
        have := HKN.out k DB y hy
        rw [hsw] at this
        exact this
      have HLK : Hid ((TK k DB).length = 128) := by show _ = _; rw [HKL.out]; exact HL6.out
      have hkb := HKB.out k
      have hblr : b < wr.heap.size := Nat.lt_of_lt_of_le hbn HB.out.size
      clear hsw hy hkDB
      have HCLOSE : Hid (∀ (W : World) m, m = mixB sw y (kB k) → W = wr → CellsB (W.setCell ⟨g2, k, none⟩ (.int .u8 (m.toNat : Int))) g2 (TK (k + 1) DB)) := fun W m hm hW => by
        subst hm hW
        rw [← HN.out]
        exact HC.out.set k _ (by rw [HLK.out]; exact hlt)
      rcases hkd with rfl | rfl
      · by_cases hz : pt.size = 0
        · obtain rfl : pt = ⟨#[]⟩ := ByteArray.ext (Array.eq_empty_of_size_eq_zero hz)
          have hkv : (255 : Int) = ((kB k).toNat : Int) := by rw [hkb, if_neg (fun h => h.2 rfl), if_neg (fun h => absurd h.1 (by decide))]; rfl
          have hem : (⟨#[]⟩ : ByteArray).toList.isEmpty = true := by rw [ByteArray.toList_eq]; rfl
          clear hz
          obtain ⟨m, hm⟩ : ∃ m, m = mixB sw y (kB k) := ⟨_, rfl⟩
          have HMX : Hid (∀ W, Calls Try.prog 28 #[.int .u8 (sw.toNat : Int), .int .u8 (y.toNat : Int), .int .u8 (255)] W fun e w' => e = .returned (.int .u8 (m.toNat : Int)) ∧ w' = W) := fun W => by
            rw [hm, hkv]
            exact mix_any sw y (kB k) W
          have HME : Hid (m = mixB sw y (kB k)) := hm
          clear hm hkv hkb
          go_wp2_with fail
          refine (HMX.out _).mono ?_
          rintro e wm ⟨rfl, hwm⟩
          have HCL2 := HCLOSE.out wm m HME.out hwm
          subst hwm
          clear HCLOSE HMX HME HN
          go_wp2
          have gs := grown_set wm g2 k (.int .u8 (m.toNat : Int))
          exact ⟨⟨k + 1, by omega, by go_num, HCL2, HO.out.kept gs (.inr (by intro e; simp [Value.ownBlock] at e; omega)), HX.out.kept gs (by intro e; injection e with e; omega), HR.out.kept gs (by intro e; injection e with e; omega), HFF.out.kept gs (by intro e; injection e with e; omega), HD.out.kept gs (by intro e; injection e with e; omega), HB.out.setCell (by simp; omega) _⟩, by simp [intOf]; omega⟩
        · have hem : pt.toList.isEmpty = false := by
            rw [ByteArray.toList_eq]
            cases h : pt.data.toList with
            | nil => exact absurd (by have := congrArg List.length h; simpa using this) hz
            | cons x l => rfl
          have hpos : 0 < pt.size := by omega
          have hkv : (pt[0].toNat : Int) = ((kB k).toNat : Int) := by
            rw [hkb, if_pos ⟨rfl, hz⟩, List.getD_eq_getElem?_getD, List.getElem?_eq_getElem (by simpa using hpos)]
            rfl
          clear hz
          obtain ⟨m, hm⟩ : ∃ m, m = mixB sw y (kB k) := ⟨_, rfl⟩
          have HMX : Hid (∀ W, Calls Try.prog 28 #[.int .u8 (sw.toNat : Int), .int .u8 (y.toNat : Int), .int .u8 (pt[0].toNat : Int)] W fun e w' => e = .returned (.int .u8 (m.toNat : Int)) ∧ w' = W) := fun W => by
            rw [hm, hkv]
            exact mix_any sw y (kB k) W
          have HME : Hid (m = mixB sw y (kB k)) := hm
          clear hm hkv hkb
          go_wp2_with fail
          refine (HMX.out _).mono ?_
          rintro e wm ⟨rfl, hwm⟩
          have HCL2 := HCLOSE.out wm m HME.out hwm
          subst hwm
          clear HCLOSE HMX HME HN
          go_wp2
          have gs := grown_set wm g2 k (.int .u8 (m.toNat : Int))
          exact ⟨⟨k + 1, by omega, by go_num, HCL2, HO.out.kept gs (.inr (by intro e; simp [Value.ownBlock] at e; omega)), HX.out.kept gs (by intro e; injection e with e; omega), HR.out.kept gs (by intro e; injection e with e; omega), HFF.out.kept gs (by intro e; injection e with e; omega), HD.out.kept gs (by intro e; injection e with e; omega), HB.out.setCell (by simp; omega) _⟩, by simp [intOf]; omega⟩
      · by_cases hz : k < pt.size
        · obtain ⟨z, hz1⟩ : ∃ z : UInt8, pt[k] = z := ⟨_, rfl⟩
          have hzz := z.toNat_lt
          have hkv : (255 : Int) - (z.toNat : Int) = ((kB k).toNat : Int) := by
            rw [hkb, if_neg (by simp), if_pos ⟨rfl, hz⟩, List.getD_eq_getElem?_getD, List.getElem?_eq_getElem (by simpa using hz)]
            show _ = (((255 : UInt8) - pt[k]).toNat : Int)
            rw [hz1, UInt8.toNat_sub_of_le _ _ (by rw [UInt8.le_iff_toNat_le]; show z.toNat ≤ 255; omega)]
            show _ = ((255 - z.toNat : Nat) : Int)
            omega
          obtain ⟨m, hm⟩ : ∃ m, m = mixB sw y (kB k) := ⟨_, rfl⟩
          have HMX : Hid (∀ W, Calls Try.prog 28 #[.int .u8 (sw.toNat : Int), .int .u8 (y.toNat : Int), .int .u8 (255 - (z.toNat : Int))] W fun e w' => e = .returned (.int .u8 (m.toNat : Int)) ∧ w' = W) := fun W => by
            rw [hm, hkv]
            exact mix_any sw y (kB k) W
          have HME : Hid (m = mixB sw y (kB k)) := hm
          clear hm hkv hkb
          go_wp2_with fail
          refine (HMX.out _).mono ?_
          rintro e wm ⟨rfl, hwm⟩
          have HCL2 := HCLOSE.out wm m HME.out hwm
          subst hwm
          clear HCLOSE HMX HME HN
          go_wp2
          have gs := grown_set wm g2 k (.int .u8 (m.toNat : Int))
          exact ⟨⟨k + 1, by omega, by go_num, HCL2, HO.out.kept gs (.inr (by intro e; simp [Value.ownBlock] at e; omega)), HX.out.kept gs (by intro e; injection e with e; omega), HR.out.kept gs (by intro e; injection e with e; omega), HFF.out.kept gs (by intro e; injection e with e; omega), HD.out.kept gs (by intro e; injection e with e; omega), HB.out.setCell (by simp; omega) _⟩, by simp [intOf]; omega⟩
        · have hkv : (255 : Int) = ((kB k).toNat : Int) := by rw [hkb, if_neg (by simp), if_neg (by omega)]; rfl
          have hzn : ¬ ((k : Int) < (pt.size : Int)) := by omega
          obtain ⟨m, hm⟩ : ∃ m, m = mixB sw y (kB k) := ⟨_, rfl⟩
          have HMX : Hid (∀ W, Calls Try.prog 28 #[.int .u8 (sw.toNat : Int), .int .u8 (y.toNat : Int), .int .u8 (255)] W fun e w' => e = .returned (.int .u8 (m.toNat : Int)) ∧ w' = W) := fun W => by
            rw [hm, hkv]
            exact mix_any sw y (kB k) W
          have HME : Hid (m = mixB sw y (kB k)) := hm
          clear hm hkv hkb
          go_wp2_with fail
          refine (HMX.out _).mono ?_
          rintro e wm ⟨rfl, hwm⟩
          have HCL2 := HCLOSE.out wm m HME.out hwm
          subst hwm
          clear HCLOSE HMX HME HN
          go_wp2
          have gs := grown_set wm g2 k (.int .u8 (m.toNat : Int))
          exact ⟨⟨k + 1, by omega, by go_num, HCL2, HO.out.kept gs (.inr (by intro e; simp [Value.ownBlock] at e; omega)), HX.out.kept gs (by intro e; injection e with e; omega), HR.out.kept gs (by intro e; injection e with e; omega), HFF.out.kept gs (by intro e; injection e with e; omega), HD.out.kept gs (by intro e; injection e with e; omega), HB.out.setCell (by simp; omega) _⟩, by simp [intOf]; omega⟩
    · obtain rfl : k = 128 := by omega
      have x0 := HX.out.cell 0
      simp at x0
      have hqg : q < (F.flatMap strC).length := by rw [flatStr_length]; omega
      obtain ⟨old, hold⟩ : ∃ u, (F.flatMap strC)[q]? = some u := ⟨_, List.getElem?_eq_getElem hqg⟩
      have r0 := own_cell HO.out q old hold
      have r1 := own_frozen HO.out q
      have hcv := convDB HC.out (by rw [HKL.out]; exact HL6.out) c2
      have s0 := HR.out.cell 0
      have s1 := HR.out.frozen 0
      simp at s0
      have HRT : Hid (R = F.set q ⟨(TK 128 DB).toArray⟩) := HT
      clear hold hqg HT
      generalize (⟨(TK 128 DB).toArray⟩ : ByteArray) = xb at *
      obtain ⟨o1, g1⟩ := HO.out.stored q (.string xb)
      rw [flatStr_set, ← HRT.out] at o1
      have HX1 : Hid (CellsAt (wr.setCell ⟨g, q, none⟩ (.string xb)) X 26 #[.slice (some ⟨g, 0, none⟩) F.length gc]) := HX.out.kept g1 (by intro e; injection e with e; omega)
      have hgb := own_block HO.out g rfl
      have HR1 : Hid (CellsAt (wr.setCell ⟨g, q, none⟩ (.string xb)) (w.heap.size + 1 + 1) 26 #[.slice none 0 0]) := HR.out.kept g1 (by intro e; injection e with e; omega)
      have HB1 : Hid (Below w.heap.size w (wr.setCell ⟨g, q, none⟩ (.string xb))) := HB.out.setCell (by simp; omega) _
      have HO1 : Hid ((wr.setCell ⟨g, q, none⟩ (.string xb)).ownsRow (w.heap.size + 1 + 1 + 1) 9 1 (.slice (some ⟨g, 0, none⟩) F.length gc) F.length (R.flatMap strC)) := o1
      have x1 := HX1.out.cell 0
      have z0 := HR1.out.cell 0
      have z1 := HR1.out.frozen 0
      simp at x1 z0
      clear o1 g1
      go_wp2
      have hF := HR1.out.set 0 (.slice (some ⟨g, 0, none⟩) F.length gc)
      simp only [List.setIfInBounds_toArray, List.set_cons_zero] at hF
      refine bodyPost_ret (results_cell_row rfl _ _ _ _ _ _ _ rfl hF Try.underlying26 rfl (by kernel_rfl)) rfl ?_
      have ho := HO1.out.kept (grown_set (wr.setCell ⟨g, q, none⟩ (.string xb)) (w.heap.size + 1 + 1) 0 (.slice (some ⟨g, 0, none⟩) F.length gc)) (.inr (by intro e; simp [Value.ownBlock] at e; omega))
      exact ⟨⟨_, rfl, ⟨ho.1, ho.2.imp id (fun ⟨g, cap, cur, h1, h2, h3⟩ => ⟨g, cap, cur, h1, by omega, h3⟩)⟩, HGN.out HL6.out⟩, HB1.out.setCell (by simp; omega) _⟩

end Go.Proofs.Ythmohjgdcjafkag

/- What deeds make of blocks is what they make of bytes. -/
namespace Go.Proofs.Ythmohjgdcjafkag
open Go.RowKit Go.PlainAid

set_option maxRecDepth 100000

theorem u8_ext {a b : UInt8} (h : ∀ i, i < 8 → a.toBitVec.getLsbD i = b.toBitVec.getLsbD i) : a = b :=
  UInt8.toBitVec_inj.1 (BitVec.eq_of_getLsbD_eq (fun i hi => h i hi))
theorem u8_x1 (b : UInt8) : b ^^^ (b ^^^ 255) = 255 := by
  apply u8_ext; intro i hi
  simp only [UInt8.toBitVec_xor, BitVec.getLsbD_xor]
  cases b.toBitVec.getLsbD i <;> simp
theorem u8_x2 (b v : UInt8) : b ^^^ (b ^^^ (b &&& v)) = b &&& v := by
  apply u8_ext; intro i hi
  simp only [UInt8.toBitVec_xor, UInt8.toBitVec_and, BitVec.getLsbD_xor, BitVec.getLsbD_and]
  cases b.toBitVec.getLsbD i <;> cases v.toBitVec.getLsbD i <;> rfl
theorem u8_x3 (b p : UInt8) : b ^^^ ((b ^^^ 255) &&& p) = mixB b 255 (255 - p) := by
  have e : (255 : UInt8) - p = ~~~p := by
    apply UInt8.toNat_inj.1
    rw [UInt8.toNat_sub_of_le _ _ (by rw [UInt8.le_iff_toNat_le]; have := p.toNat_lt; show p.toNat ≤ 255; omega), UInt8.toNat_not]
    rfl
  have f : ∀ i, i < 8 → (255 : UInt8).toBitVec.getLsbD i = true := by decide
  rw [e]
  apply u8_ext; intro i hi
  unfold mixB
  simp only [UInt8.toBitVec_xor, UInt8.toBitVec_and, UInt8.toBitVec_or, UInt8.toBitVec_not, BitVec.getLsbD_xor, BitVec.getLsbD_and, BitVec.getLsbD_or, BitVec.getLsbD_not, f i hi, hi, decide_true, Bool.true_and]
  cases b.toBitVec.getLsbD i <;> cases p.toBitVec.getLsbD i <;> rfl
theorem u8_x4 (b v s : UInt8) : b ^^^ ((b ^^^ (b &&& v)) &&& ~~~s) = mixB b (b &&& v) s := by
  apply u8_ext; intro i hi
  unfold mixB
  simp only [UInt8.toBitVec_xor, UInt8.toBitVec_and, UInt8.toBitVec_or, UInt8.toBitVec_not, BitVec.getLsbD_xor, BitVec.getLsbD_and, BitVec.getLsbD_or, BitVec.getLsbD_not, hi, decide_true, Bool.true_and]
  cases b.toBitVec.getLsbD i <;> cases v.toBitVec.getLsbD i <;> cases s.toBitVec.getLsbD i <;> rfl
theorem u8_x5 (b s : UInt8) : mixB b b s = b := by
  apply u8_ext; intro i hi
  unfold mixB
  simp only [UInt8.toBitVec_and, UInt8.toBitVec_or, UInt8.toBitVec_not, BitVec.getLsbD_and, BitVec.getLsbD_or, BitVec.getLsbD_not, hi, decide_true, Bool.true_and]
  cases b.toBitVec.getLsbD i <;> cases s.toBitVec.getLsbD i <;> rfl
theorem u8_x6 (b c : UInt8) : mixB b c 255 = b := by
  have f : ∀ i, i < 8 → (255 : UInt8).toBitVec.getLsbD i = true := by decide
  apply u8_ext; intro i hi
  unfold mixB
  simp only [UInt8.toBitVec_and, UInt8.toBitVec_or, UInt8.toBitVec_not, BitVec.getLsbD_and, BitVec.getLsbD_or, BitVec.getLsbD_not, f i hi, hi, decide_true, Bool.true_and]
  cases b.toBitVec.getLsbD i <;> cases c.toBitVec.getLsbD i <;> rfl

theorem joinM_at : ∀ {F : List ByteArray}, (∀ b ∈ F, b.size = 128) → ∀ (q i : Nat), i < 128 → (joinM F)[q * 128 + i]? = (F[q]?).bind fun b => b.data.toList[i]?
  | [], _, q, i, _ => by simp [joinM]
  | x :: F, h, 0, i, hi => by
    have hx : x.data.toList.length = 128 := by have := h x (List.mem_cons_self ..); have e : x.data.toList.length = x.size := by simp
                                               omega
    unfold joinM
    rw [List.flatMap_cons, Nat.zero_mul, Nat.zero_add, List.getElem?_append_left (by omega)]
    rfl
  | x :: F, h, q + 1, i, hi => by
    have hx : x.data.toList.length = 128 := by have := h x (List.mem_cons_self ..); have e : x.data.toList.length = x.size := by simp
                                               omega
    have ih := joinM_at (F := F) (fun b hb => h b (List.mem_cons_of_mem _ hb)) q i hi
    unfold joinM at ih ⊢
    rw [List.flatMap_cons, List.getElem?_append_right (by omega), hx, show (q + 1) * 128 + i - 128 = q * 128 + i by omega, ih]
    rfl
theorem joinM_ext {n : Nat} {F : List ByteArray} {c : List UInt8} (hF : GoodF n F) (hc : c.length = n * 128) (h : ∀ q i, q < n → i < 128 → c[q * 128 + i]? = (F[q]?).bind fun b => b.data.toList[i]?) : c = joinM F := by
  apply List.ext_getElem?
  intro j
  by_cases hj : j < n * 128
  · have h1 := h (j / 128) (j % 128) (by omega) (Nat.mod_lt _ (by decide))
    have h2 := joinM_at hF.2.2.2 (j / 128) (j % 128) (Nat.mod_lt _ (by decide))
    rw [show j / 128 * 128 + j % 128 = j by omega] at h1 h2
    rw [h1, h2]
  · rw [List.getElem?_eq_none (by omega), List.getElem?_eq_none (by rw [joinM_length hF.2.2.2, hF.1]; omega)]
theorem blocksM_join {n : Nat} {F : List ByteArray} (hF : GoodF n F) : blocksM (joinM F) = F := by
  have hl := joinM_length hF.2.2.2
  unfold blocksM
  rw [hl, Nat.mul_div_cancel _ (by decide)]
  apply List.ext_getElem?
  intro q
  rw [List.getElem?_map]
  by_cases hq : q < F.length
  · rw [List.getElem?_range hq, List.getElem?_eq_getElem hq]
    show some (blockAt (joinM F) q) = _
    congr 1
    apply ByteArray.ext
    apply Array.toList_inj.1
    unfold blockAt
    show (((joinM F).drop (q * 128)).take 128) = _
    have hs : F[q].data.toList.length = 128 := by
      have := hF.2.2.2 F[q] (List.getElem_mem hq)
      have e : F[q].data.toList.length = F[q].size := by simp
      omega
    apply List.ext_getElem?
    intro i
    by_cases hi : i < 128
    · rw [List.getElem?_take_of_lt hi, List.getElem?_drop, joinM_at hF.2.2.2 q i hi, List.getElem?_eq_getElem hq]
      rfl
    · rw [List.getElem?_eq_none (by rw [List.length_take]; omega), List.getElem?_eq_none (by omega)]
  · rw [List.getElem?_eq_none (by simpa using hq), List.getElem?_eq_none (by omega)]
    rfl

/-- The byte that lies there. -/
theorem good_byte {n : Nat} {F : List ByteArray} (hF : GoodF n F) {q i : Nat} (hq : q < n) (hi : i < 128) : ∃ b y, F[q]? = some b ∧ b.data.toList[i]? = some y ∧ b.data.toList.length = 128 := by
  have hq' : q < F.length := by rw [hF.1]; exact hq
  have hs : F[q].data.toList.length = 128 := by
    have := hF.2.2.2 F[q] (List.getElem_mem hq')
    have e : F[q].data.toList.length = F[q].size := by simp
    omega
  exact ⟨F[q], F[q].data.toList[i], List.getElem?_eq_getElem hq', List.getElem?_eq_getElem (by omega), hs⟩

theorem dBytes_length {n : Nat} {F : List ByteArray} (hF : GoodF n F) {d : Deed} (h : chkDeed (n * 128) d = 0) : (dBytes F d).length = 128 := by
  obtain ⟨_, _, _, h4, h5⟩ := deed_right h
  unfold dBytes
  rcases h5 with ⟨hk, hs, hm⟩ | ⟨hk, _, hs, hm⟩
  · rw [if_neg (by omega), List.length_set]
    obtain ⟨b, y, hb, _, hl⟩ := good_byte hF (q := d.pos.toNat / 128) (i := 0) (by omega) (by decide)
    rw [List.getD_eq_getElem?_getD, hb]
    exact hl
  · rw [if_pos hk, List.length_replicate]
theorem doneB_good {n : Nat} {F : List ByteArray} (hF : GoodF n F) {d : Deed} (h : chkDeed (n * 128) d = 0) : GoodF n (doneB F d) := hF.set _ _ (by rw [size_mk, dBytes_length hF h])
theorem tornB_good {n : Nat} {F : List ByteArray} (hF : GoodF n F) {d : Deed} (h : chkDeed (n * 128) d = 0) (p : ByteArray) : GoodF n (tornB F d p) := hF.set _ _ (by rw [size_mk]; unfold tornL; rw [tornK_length, dBytes_length hF h])

theorem set_here {α : Type} (l : List α) (k q : Nat) (x : α) (h : k = q) (hk : k < l.length) : (l.set k x)[q]? = some x := by
  subst h
  exact List.getElem?_set_self hk
theorem set_there {α : Type} (l : List α) (k q : Nat) (x : α) (h : k ≠ q) : (l.set k x)[q]? = l[q]? := List.getElem?_set_ne h

theorem turn_done {n : Nat} {F : List ByteArray} (hF : GoodF n F) {d : Deed} (h : chkDeed (n * 128) d = 0) : turnM allT d (joinM F) = joinM (doneB F d) := by
  obtain ⟨h1, h2, h3, h4, h5⟩ := deed_right h
  have hblk := dBlk_lt h
  refine joinM_ext (doneB_good hF h) (by rw [turnM_length, joinM_length hF.2.2.2, hF.1]) fun q i hq hi => ?_
  obtain ⟨b, y, hb, hy, hl⟩ := good_byte hF hq hi
  unfold turnM
  rw [turnK_at, joinM_at hF.2.2.2 q i hi, hb]
  simp only [Option.bind_some, hy, Option.map_some]
  unfold doneB
  rcases h5 with ⟨hk, hs, hm⟩ | ⟨hk, _, hs, hm⟩
  · have hB : dBlk d = d.pos.toNat / 128 := by unfold dBlk; rw [if_neg (by omega)]
    rw [hs, hm]
    have hbec : d.bec y = y &&& UInt8.ofNat d.val.toNat := by unfold Deed.bec; rw [if_neg (by omega)]
    by_cases hqb : dBlk d = q
    · rw [set_here _ _ _ _ hqb (by rw [hF.1]; exact hblk)]
      have hD : dBytes F d = (b.data.toList).set (d.pos.toNat % 128) (b.data.toList.getD (d.pos.toNat % 128) 0 &&& UInt8.ofNat d.val.toNat) := by
        unfold dBytes
        rw [if_neg (by omega), List.getD_eq_getElem?_getD, ← hB, hqb, hb]
        rfl
      simp only [Option.bind_some]
      rw [hD]
      by_cases hib : d.pos.toNat % 128 = i
      · rw [set_here _ _ _ _ hib (by omega), if_pos (by omega), hib, List.getD_eq_getElem?_getD, hy, hbec]
        show some (y ^^^ (y ^^^ (y &&& _))) = _
        rw [u8_x2]
        rfl
      · rw [set_there _ _ _ _ hib, if_neg (by omega), hy]
    · rw [set_there _ _ _ _ hqb, if_neg (by omega), hb]
      simp only [Option.bind_some, hy]
  · have hB : dBlk d = d.pos.toNat := by unfold dBlk; rw [if_pos hk]
    rw [hs, hm]
    have hbec : d.bec y = 255 := by unfold Deed.bec; rw [if_pos hk]
    by_cases hqb : dBlk d = q
    · rw [set_here _ _ _ _ hqb (by rw [hF.1]; exact hblk), if_pos (by omega), hbec]
      have hD : dBytes F d = List.replicate 128 255 := if_pos hk
      simp only [Option.bind_some]
      rw [hD]
      show some (y ^^^ (y ^^^ 255)) = _
      rw [u8_x1, List.getElem?_replicate, if_pos hi]
    · rw [set_there _ _ _ _ hqb, if_neg (by omega), hb]
      simp only [Option.bind_some, hy]

theorem turn_torn {n : Nat} {F : List ByteArray} (hF : GoodF n F) {d : Deed} (h : chkDeed (n * 128) d = 0) (p : ByteArray) : turnM (tornT d.kind p) d (joinM F) = joinM (tornB F d p) := by
  obtain ⟨h1, h2, h3, h4, h5⟩ := deed_right h
  have hblk := dBlk_lt h
  refine joinM_ext (tornB_good hF h p) (by rw [turnM_length, joinM_length hF.2.2.2, hF.1]) fun q i hq hi => ?_
  obtain ⟨b, y, hb, hy, hl⟩ := good_byte hF hq hi
  unfold turnM
  rw [turnK_at, joinM_at hF.2.2.2 q i hi, hb]
  simp only [Option.bind_some, hy, Option.map_some]
  unfold tornB
  rcases h5 with ⟨hk, hs, hm⟩ | ⟨hk, _, hs, hm⟩
  · have hB : dBlk d = d.pos.toNat / 128 := by unfold dBlk; rw [if_neg (by omega)]
    rw [hs, hm]
    have hbec : d.bec y = y &&& UInt8.ofNat d.val.toNat := by unfold Deed.bec; rw [if_neg (by omega)]
    by_cases hqb : dBlk d = q
    · rw [set_here _ _ _ _ hqb (by rw [hF.1]; exact hblk)]
      have hD : dBytes F d = (b.data.toList).set (d.pos.toNat % 128) (b.data.toList.getD (d.pos.toNat % 128) 0 &&& UInt8.ofNat d.val.toNat) := by
        unfold dBytes
        rw [if_neg (by omega), List.getD_eq_getElem?_getD, ← hB, hqb, hb]
        rfl
      have hT : tornL F d p = tornK d p b.data.toList 128 (dBytes F d) := by
        unfold tornL
        rw [List.getD_eq_getElem?_getD, hqb, hb]
        rfl
      simp only [Option.bind_some]
      show _ = (tornL F d p)[i]?
      rw [hT, tornK_at, hD, List.getD_eq_getElem?_getD (i := i), hy]
      by_cases hib : d.pos.toNat % 128 = i
      · rw [set_here _ _ _ _ hib (by omega), if_pos (by omega), hib, List.getD_eq_getElem?_getD, hy, hbec]
        simp only [Option.map_some, Option.getD_some]
        rw [if_pos hi, tornT_ne _ (by omega)]
        have hkb : keepB d p i = if p.size = 0 then 255 else p.data.toList.getD 0 0 := by
          unfold keepB
          by_cases hz : p.size = 0
          · rw [if_neg (fun h => h.2 hz), if_neg (by omega), if_pos hz]
          · rw [if_pos ⟨hk, hz⟩, if_neg hz]
        rw [hkb]
        show some (y ^^^ ((y ^^^ (y &&& _)) &&& ~~~ (if p.size = 0 then 255 else p.data.toList.getD 0 0))) = _
        rw [u8_x4]
      · rw [set_there _ _ _ _ hib, if_neg (by omega), hy]
        simp only [Option.map_some, Option.getD_some]
        rw [if_pos hi, u8_x5]
    · rw [set_there _ _ _ _ hqb, if_neg (by omega), hb]
      simp only [Option.bind_some, hy]
  · have hB : dBlk d = d.pos.toNat := by unfold dBlk; rw [if_pos hk]
    rw [hs, hm]
    have hbec : d.bec y = 255 := by unfold Deed.bec; rw [if_pos hk]
    by_cases hqb : dBlk d = q
    · rw [set_here _ _ _ _ hqb (by rw [hF.1]; exact hblk), if_pos (by omega), hbec]
      have hD : dBytes F d = List.replicate 128 255 := if_pos hk
      have hT : tornL F d p = tornK d p b.data.toList 128 (dBytes F d) := by
        unfold tornL
        rw [List.getD_eq_getElem?_getD, hqb, hb]
        rfl
      simp only [Option.bind_some]
      show _ = (tornL F d p)[i]?
      rw [hT, tornK_at, hD, List.getElem?_replicate, if_pos hi, List.getD_eq_getElem?_getD (i := i), hy]
      simp only [Option.map_some, Option.getD_some]
      rw [if_pos hi, hk]
      have hki : q * 128 + i - d.pos.toNat * 128 = i := by omega
      rw [hki]
      have hkb : keepB d p i = if i < p.size then 255 - p.data.toList.getD i 0 else 255 := by
        unfold keepB
        rw [if_neg (by omega)]
        by_cases hz : i < p.size
        · rw [if_pos ⟨hk, hz⟩, if_pos hz]
        · rw [if_neg (fun h => hz h.2), if_neg hz]
      rw [hkb]
      show some (y ^^^ (if i < p.size then (y ^^^ 255) &&& p.data.toList.getD i 0 else 0)) = _
      by_cases hz : i < p.size
      · rw [if_pos hz, if_pos hz, u8_x3]
      · rw [if_neg hz, if_neg hz, u8_x6, UInt8.xor_zero]
    · rw [set_there _ _ _ _ hqb, if_neg (by omega), hb]
      simp only [Option.bind_some, hy]

theorem do_done {n : Nat} : ∀ {l : List Deed} {F : List ByteArray}, GoodF n F → ∀ {e : Int}, e = 0 → ((doFrom allT (joinM F) l).2 = chkDs (n * 128) e l) ∧ (chkDs (n * 128) e l = 0 → (doFrom allT (joinM F) l).1 = joinM (doneAll F l) ∧ GoodF n (doneAll F l))
  | [], F, hF, e, he => by
    subst he
    exact ⟨rfl, fun _ => ⟨rfl, hF⟩⟩
  | d :: r, F, hF, e, he => by
    subst he
    rw [doFrom_cons, joinM_length hF.2.2.2, hF.1]
    unfold chkDs
    rw [if_pos rfl]
    by_cases hd : chkDeed (n * 128) d = 0
    · rw [if_neg (by omega), turn_done hF hd, hd]
      exact do_done (doneB_good hF hd) rfl
    · rw [if_pos hd, chkDs_wrong _ _ _ hd]
      exact ⟨rfl, fun h => absurd h hd⟩

theorem chg_done (F : List ByteArray) (l : List Deed) : (chgRes allT F l).2 = chkDeeds F l ∧ (chgRes allT F l).1 = if chkDeeds F l = 0 then doneAll F l else [] := by
  unfold chgRes chkDeeds
  by_cases h : chkFl F = 0
  · have hG := goodF_iff.1 h
    obtain ⟨h1, h2⟩ := do_done (l := l) hG h
    rw [if_neg (by omega)]
    by_cases hz : chkDs (F.length * 128) (chkFl F) l = 0
    · obtain ⟨h3, h4⟩ := h2 hz
      rw [if_neg (by rw [h1, hz]; omega), if_pos hz, h3]
      exact ⟨hz.symm, blocksM_join h4⟩
    · rw [if_pos (by rw [h1]; exact hz), if_neg hz, h1]
      exact ⟨rfl, rfl⟩
  · rw [if_pos h, chkDs_wrong _ _ _ h, if_neg h]
    exact ⟨rfl, rfl⟩
theorem chg_torn (F : List ByteArray) (d : Deed) (p : ByteArray) : (chgRes (tornT d.kind p) F [d]).2 = chkDeeds F [d] ∧ (chgRes (tornT d.kind p) F [d]).1 = if chkDeeds F [d] = 0 then tornB F d p else [] := by
  unfold chgRes chkDeeds
  by_cases h : chkFl F = 0
  · have hG := goodF_iff.1 h
    rw [if_neg (by omega)]
    unfold chkDs
    rw [if_pos h, doFrom_cons, joinM_length hG.2.2.2, doFrom_nil]
    by_cases hd : chkDeed (F.length * 128) d = 0
    · rw [if_neg (by omega : ¬ chkDeed (F.length * 128) d ≠ 0), turn_torn hG hd]
      rw [if_neg (by simp)]
      unfold chkDs
      rw [if_pos hd]
      exact ⟨hd.symm, blocksM_join (tornB_good hG hd p)⟩
    · rw [if_pos hd, if_pos hd]
      unfold chkDs
      rw [if_neg hd]
      exact ⟨rfl, rfl⟩
  · rw [if_pos h, chkDs_wrong _ _ _ h, if_neg h]
    exact ⟨rfl, rfl⟩
theorem newRes_ff (n : Nat) (h1 : 1 ≤ n) (h2 : n ≤ 32) : newRes n = List.replicate n (ffB 128) ∧ GoodF n (newRes n) := by
  have hG : GoodF n (List.replicate n (ffB 128)) := ⟨List.length_replicate, h1, h2, fun b hb => by rw [(List.mem_replicate.1 hb).2, ffB_size]⟩
  have e : joinM (List.replicate n (ffB 128)) = List.replicate (n * 128) 255 := by
    symm
    refine joinM_ext hG List.length_replicate fun q i hq hi => ?_
    rw [List.getElem?_replicate, if_pos (by omega), List.getElem?_replicate, if_pos hq]
    show _ = (ffB 128).data.toList[i]?
    unfold ffB
    show _ = (List.replicate 128 255)[i]?
    rw [List.getElem?_replicate, if_pos hi]
  have : newRes n = List.replicate n (ffB 128) := by
    unfold newRes
    rw [if_pos (by omega), Int.toNat_natCast, ← e, blocksM_join hG]
  exact ⟨this, by rw [this]; exact hG⟩

end Go.Proofs.Ythmohjgdcjafkag

/- The contract of package journal's bytesOf. -/
namespace Go.Proofs.Ythmohjgdcjafkag
open Go.RowKit Go.PlainAid Go.Lib

set_option maxRecDepth 100000

/-- All bytes of a flash, if it is one. -/
def bytesRes (F : List ByteArray) : ByteArray × Int := if chkFl F ≠ 0 then (⟨#[]⟩, chkFl F) else (⟨(joinM F).toArray⟩, 0)

theorem wrap_wf (m : Int) : (Lit.int .i64 (wrap64 m)).wf = true := by
  simp [Lit.wf, IntKind.min, IntKind.max, IntKind.signed, IntKind.bits]
  unfold wrap64
  omega
theorem bytes_read (F : List ByteArray) : readRes F 0 (wrap64 ((F.length : Int) * 128)) = bytesRes F := by
  unfold readRes bytesRes
  by_cases h : chkFl F ≠ 0
  · rw [if_pos h, if_pos h]
  · rw [if_neg h, if_neg h]
    have hG := goodF_iff.1 (Decidable.not_not.1 h)
    have hl : (joinM F).length = F.length * 128 := joinM_length hG.2.2.2
    have h32 : F.length ≤ 32 := hG.2.2.1
    have ew : wrap64 ((F.length : Int) * 128) = ((F.length * 128 : Nat) : Int) := by unfold wrap64; omega
    rw [ew, hl, if_neg (by omega)]
    congr 2
    simp
    exact List.take_of_length_le (by rw [hl]; omega)

set_option maxHeartbeats 4000000 in
theorem bytesOf_any (F : List ByteArray) (v : Value) (w : World) (hF : IsFl w.heap.size w v F) :
    Calls Try.prog 23 #[.agg #[v]] w fun e w' => e = .returned (.tuple #[.string (bytesRes F).1, .int .i64 (bytesRes F).2]) ∧ Below w.heap.size w w' := by
  obtain ⟨⟨a, cap, rfl, _, _⟩, _⟩ := id hF
  have HRD : Hid (∀ v W, IsFl W.heap.size W v F → Calls Try.prog 19 #[.agg #[v], .int .i64 0, .int .i64 (wrap64 ((F.length : Int) * 128))] W fun e w' => e = .returned (.tuple #[.string (bytesRes F).1, .int .i64 (bytesRes F).2]) ∧ Below W.heap.size W w') := fun v W h => by
    have := flRead_any F v 0 (wrap64 ((F.length : Int) * 128)) W h (by kernel_rfl) (wrap_wf _)
    rw [bytes_read] at this
    exact this
  have HB1 : Hid (Below w.heap.size w (w.alloc (.cells #[.slice a F.length cap] 26))) := (Below.refl _ _).alloc (Nat.le_refl _) _
  have HR1 : Hid (CellsAt (w.alloc (.cells #[.slice a F.length cap] 26)) w.heap.size 26 #[.slice a F.length cap]) := CellsAt.new _ _ _
  have HF1 : Hid (IsFl (w.alloc (.cells #[.slice a F.length cap] 26)).heap.size (w.alloc (.cells #[.slice a F.length cap] 26)) (.slice a F.length cap) F) := (hF.below HB1.out).more HB1.out.size
  generalize bytesRes F = R at *
  obtain ⟨n, hn⟩ : ∃ n, n = F.length := ⟨_, rfl⟩
  rw [← hn] at HRD HB1 HR1 HF1 ⊢
  clear hn hF
  obtain ⟨M, hM⟩ : ∃ M, M = wrap64 ((n : Int) * 128) := ⟨_, rfl⟩
  rw [← hM] at HRD
  have ew := hM.symm
  clear hM
  have ew2 : IntKind.i64.wrap ((n : Int) * 128) = M := by rw [i64_is]; exact ew
  go_enter Try.func23, Try.ntmps23
  have r0 := HR1.out.cell 0
  have rl := HR1.out.lt
  simp at r0
  go_wp2_with fail
  refine (HRD.out _ _ HF1.out).mono ?_
  rintro e w2 ⟨rfl, b⟩
  have HB2 : Hid (Below w.heap.size w w2) := HB1.out.trans (b.mono HB1.out.size)
  clear HB1 HR1 HF1 b r0 rl HRD ew ew2
  go_wp2
  go_ret2
  exact ⟨rfl, HB2.out⟩

end Go.Proofs.Ythmohjgdcjafkag
