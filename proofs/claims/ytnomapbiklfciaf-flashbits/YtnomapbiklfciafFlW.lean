/- The contract of the document's DoneOf. -/
import Derived.Test.YtnomapbiklfciafFlV
namespace Go.Proofs.Ytnomapbiklfciaf
open Go.RowKit Go.PlainAid Go.Lib

set_option maxRecDepth 100000

def doneB (F : List ByteArray) (d : Deed) : List ByteArray := F.set (dBlk d) ⟨(dBytes F d).toArray⟩
def doneAll (F : List ByteArray) (l : List Deed) : List ByteArray := l.foldl doneB F
/-- A flash that is right. -/
def GoodF (n : Nat) (F : List ByteArray) : Prop := F.length = n ∧ 1 ≤ n ∧ n ≤ 32 ∧ ∀ b ∈ F, b.size = 128
theorem goodF_iff {F : List ByteArray} : chkFl F = 0 ↔ GoodF F.length F := by
  constructor
  · intro h
    rcases chkFl_cases F with ⟨e, _⟩ | ⟨e, _⟩ | ⟨_, h1, h2, h3⟩
    · rw [e] at h; cases h
    · rw [e] at h; cases h
    · exact ⟨rfl, h1, h2, h3⟩
  · rintro ⟨_, h1, h2, h3⟩
    rcases chkFl_cases F with ⟨_, h⟩ | ⟨_, _, _, b, hb, hne⟩ | ⟨h, _⟩
    · omega
    · exact absurd (h3 b hb) hne
    · exact h
theorem GoodF.chk {n : Nat} {F : List ByteArray} (h : GoodF n F) : chkFl F = 0 := goodF_iff.2 (by rw [h.1]; exact h)
theorem GoodF.set {n : Nat} {F : List ByteArray} (h : GoodF n F) (k : Nat) (x : ByteArray) (hx : x.size = 128) : GoodF n (F.set k x) := by
  refine ⟨by rw [List.length_set]; exact h.1, h.2.1, h.2.2.1, fun b hb => ?_⟩
  rcases List.mem_or_eq_of_mem_set hb with h1 | rfl
  · exact h.2.2.2 b h1
  · exact hx
theorem size_mk (c : List UInt8) : (⟨c.toArray⟩ : ByteArray).size = c.length := by simp [ByteArray.size]
theorem flatStr_set : ∀ (G : List ByteArray) (k : Nat) (x : ByteArray), (G.flatMap strC).set k (.string x) = (G.set k x).flatMap strC
  | [], k, x => by simp
  | y :: G, 0, x => rfl
  | y :: G, k + 1, x => by
    show Value.string y :: (G.flatMap strC).set k (.string x) = Value.string y :: (G.set k x).flatMap strC
    rw [flatStr_set G k x]
theorem flatStr_length (G : List ByteArray) : (G.flatMap strC).length = G.length := by rw [flat_len (sz := 1) (fun _ => rfl)]; omega
theorem chkDs_zero {n : Nat} : ∀ {l : List Deed} {e : Int}, chkDs n e l = 0 → e = 0 ∧ ∀ d ∈ l, chkDeed n d = 0
  | [], e, h => ⟨h, fun d hd => by simp at hd⟩
  | d :: r, e, h => by
    unfold chkDs at h
    by_cases he : e = 0
    · rw [if_pos he] at h
      obtain ⟨h1, h2⟩ := chkDs_zero h
      exact ⟨he, fun x hx => by rcases List.mem_cons.1 hx with rfl | hx; exact h1; exact h2 x hx⟩
    · rw [if_neg he] at h
      exact absurd h he
theorem dBlk_lt {n : Nat} {d : Deed} (h : chkDeed (n * 128) d = 0) : dBlk d < n := by
  obtain ⟨h1, h2, h3, h4, h5⟩ := deed_right h
  unfold dBlk
  rcases h5 with ⟨hk, hs, hm⟩ | ⟨hk, _, hs, hm⟩
  · rw [if_neg (by omega)]; omega
  · rw [if_pos hk]; omega
theorem convDB {W : World} {g : Nat} {c : List UInt8} (h : CellsB W g c) (hl : c.length = 128) (cap : Nat) :
    (convert 57 9 (.slice (some ⟨g, 0, none⟩) 128 cap)).run Try.prog W = .ok (.string ⟨c.toArray⟩) W := by
  have := run_convert_bytes_back (P := Try.prog) W 57 9 5 ⟨g, 0, none⟩ cap c Try.underlying57 Try.underlying5 Try.underlying9 (fun j hj => by
    have hadd : (⟨g, 0, none⟩ : Addr).add j = ⟨g, j, none⟩ := by unfold Addr.add; split <;> simp_all
    rw [hadd]
    exact h.holds j _ (List.getElem?_eq_getElem hj))
  rw [hl] at this
  exact this

/-- append([]string{}, l...). -/
theorem copyStr {W : World} {b off n cap B : Nat} {F : List ByteArray} (hF : F.length = n) (h0 : 1 ≤ n) (hn : n ≤ 4096)
    (hc : ∀ j x, F[j]? = some x → W.cell? ⟨b, off + j, none⟩ = some (.string x)) (he : CellsAt W B 9 #[]) {ops : Array Oper} {rest : List Oper} {o : Oper} {a : Act} {Q : Exit → Act → World → Prop} (hgd : o.guard = none) (s x : Operand)
    (ho : o.op = .call { callee := .builtin .append, args := #[s, x], argTypes := #[22, 22] }) (hs : a.eval s = .slice (some ⟨B, 0, none⟩) 0 0) (hx : a.eval x = .slice (some ⟨b, off, none⟩) n cap)
    (h : ∀ g c W', W'.ownsRow B 9 1 (.slice (some ⟨g, 0, none⟩) n c) n (F.flatMap strC) → W.grownBy W' (some B) → wpList Try.prog ops Q rest (a.put o.dst (.slice (some ⟨g, 0, none⟩) n c)) W') : wpList Try.prog ops Q (o :: rest) a W := by
  obtain ⟨is, his, hs0, hs1, hs2⟩ := infoStrF_parts
  refine wpList_append_lies _ hgd s x 22 ho B 9 is _ 1 16 Try.underlying22 his hs0 hs1 hs2 rfl (by omega) (.slice (some ⟨B, 0, none⟩) 0 0) 0 [] hs ⟨rfl, .inr ⟨B, 0, #[], rfl, Nat.le_refl _, he, Nat.le_refl _, Nat.zero_le _, rfl, rfl⟩⟩ ⟨b, off, none⟩ n cap (F.flatMap strC) hx (by rw [flatStr_length, hF, Nat.mul_one]) (fun j u hu => ?_) (fun u hu => ?_) (by omega) (by unfold maxLen; omega) (by omega) (Nat.le_of_lt he.lt) W.heap.size rfl ?_
  · have hj : j < F.length := by have := (List.getElem?_eq_some_iff.1 hu).1; rwa [flatStr_length] at this
    have h1 := flat_at (C := strC) (sz := 1) (fun _ => rfl) F j F[j] 0 (List.getElem?_eq_getElem hj) (by omega)
    rw [Nat.mul_one, Nat.add_zero] at h1
    rw [hu] at h1
    injection h1 with h1
    subst h1
    have hadd : (⟨b, off, none⟩ : Addr).add j = ⟨b, off + j, none⟩ := by unfold Addr.add; split <;> simp_all
    rw [hadd]
    exact hc j _ (List.getElem?_eq_getElem hj)
  · obtain ⟨y, _, hy⟩ := List.mem_flatMap.1 hu
    have : u = .string y := by simpa [strC] using hy
    rw [this]; rfl
  · intro g c W' hown hgr _ _
    rw [Nat.zero_add, List.nil_append] at hown
    rw [Nat.zero_add]
    exact h g c W' hown hgr

set_option maxHeartbeats 8000000 in
theorem rDone_any (F : List ByteArray) (v : Value) (l : List Deed) (vl : Value) (w : World) (hF : RowOf 1 strCell w.heap.size w v F) (hl : RowOf 3 Deed.cell w.heap.size w vl l) (h0 : chkDeeds F l = 0) :
    Calls Try.prog 17 #[.agg #[v], vl] w fun e w' => (∃ r, e = .returned (.agg #[r]) ∧ w'.ownsRow w.heap.size 9 1 r F.length ((doneAll F l).flatMap strC) ∧ GoodF F.length (doneAll F l)) ∧ Below w.heap.size w w' := by
  obtain ⟨hf, hds⟩ := chkDs_zero h0
  have hG0 : GoodF F.length F := goodF_iff.1 hf
  have HDS : Hid (∀ d ∈ l, chkDeed (F.length * 128) d = 0) := hds
  have HI0 : Hid (doneAll F l = doneAll F (l.drop 0)) := rfl
  have HSTEP : Hid (∀ G d r, doneAll G (d :: r) = doneAll (doneB G d) r) := fun _ _ _ => rfl
  have HEND : Hid (∀ G, doneAll G [] = G) := fun _ => rfl
  obtain ⟨a, cap, rfl, hmx, hrow⟩ := hF
  obtain ⟨la, lcap, rfl, hlm, hlrow⟩ := hl
  have hn1 : 1 ≤ F.length := hG0.2.1
  have hn2 : F.length ≤ 32 := hG0.2.2.1
  have HG0 : Hid (GoodF F.length F) := hG0
  clear h0 hf hds hG0
  rcases hrow with h | ⟨b, off, rfl, hbn, hcells⟩
  · subst h; simp at hn1
  have HCL : Hid (∀ j x, F[j]? = some x → w.cell? ⟨b, off + j, none⟩ = some (.string x)) := fun j x hx => by
    have := hcells j x hx 0 (by omega)
    rw [Nat.mul_one, Nat.add_zero] at this
    exact this
  clear hcells
  generalize doneAll F l = R at *
  have HB1 : Hid (Below w.heap.size w (((w.alloc (.cells #[.slice (some ⟨b, off, none⟩) F.length cap] 24)).alloc (.cells #[.slice none 0 0] 24)).alloc (.cells #[] 9))) := (((Below.refl _ _).alloc (Nat.le_refl _) _).alloc (by simp) _).alloc (by simp; omega) _
  have HR1 : Hid (CellsAt (((w.alloc (.cells #[.slice (some ⟨b, off, none⟩) F.length cap] 24)).alloc (.cells #[.slice none 0 0] 24)).alloc (.cells #[] 9)) (w.heap.size + 1) 24 #[.slice none 0 0]) := by
    have := CellsAt.new (w.alloc (.cells #[.slice (some ⟨b, off, none⟩) F.length cap] 24)) 24 #[.slice none 0 0]
    rw [World.size_alloc] at this
    exact this.kept (World.grownBy_alloc _ _ none) (by simp)
  have HE1 : Hid (CellsAt (((w.alloc (.cells #[.slice (some ⟨b, off, none⟩) F.length cap] 24)).alloc (.cells #[.slice none 0 0] 24)).alloc (.cells #[] 9)) (w.heap.size + 1 + 1) 9 #[]) := by
    have := CellsAt.new ((w.alloc (.cells #[.slice (some ⟨b, off, none⟩) F.length cap] 24)).alloc (.cells #[.slice none 0 0] 24)) 9 #[]
    simp only [World.size_alloc] at this
    exact this
  go_enter Try.func17, Try.ntmps17
  go_wp2_with (at_builtin; refine copyStr rfl hn1 (by omega) (fun j x hx => (HB1.out.cell (p := ⟨b, off + j, none⟩) hbn).trans (HCL.out j x hx)) HE1.out rfl _ _ rfl rfl rfl ?_; intro g gc w3 hown hgr)
  have hgl : g < w3.heap.size := own_lt hown
  have HB3 : Hid (Below w.heap.size w w3) := HB1.out.grown hgr (by have := HB1.out.size; exact this) (fun k e => by injection e with e; omega)
  have HR3 : Hid (CellsAt w3 (w.heap.size + 1) 24 #[.slice none 0 0]) := HR1.out.kept hgr (by intro e; injection e with e; omega)
  have HO4 : Hid ((w3.alloc (.cells #[.slice (some ⟨g, 0, none⟩) F.length gc] 24)).ownsRow (w.heap.size + 1 + 1) 9 1 (.slice (some ⟨g, 0, none⟩) F.length gc) F.length (F.flatMap strC)) := hown.alloc _
  have HX4 : Hid (CellsAt (w3.alloc (.cells #[.slice (some ⟨g, 0, none⟩) F.length gc] 24)) w3.heap.size 24 #[.slice (some ⟨g, 0, none⟩) F.length gc]) := CellsAt.new _ _ _
  have HR4 : Hid (CellsAt (w3.alloc (.cells #[.slice (some ⟨g, 0, none⟩) F.length gc] 24)) (w.heap.size + 1) 24 #[.slice none 0 0]) := HR3.out.kept (World.grownBy_alloc _ _ none) (by simp)
  have HB4 : Hid (Below w.heap.size w (w3.alloc (.cells #[.slice (some ⟨g, 0, none⟩) F.length gc] 24))) := HB3.out.alloc HB3.out.size _
  have hXl : w.heap.size + 1 < w3.heap.size := HR3.out.lt
  clear hown hgr HB1 HR1 HE1 HB3 HR3
  generalize hX : w3.heap.size = X at *
  generalize (w3.alloc (.cells #[.slice (some ⟨g, 0, none⟩) F.length gc] 24)) = w4 at *
  clear hX
  go_loopw [6] (fun i wr => ∃ (k : Nat) (G : List ByteArray), k ≤ l.length ∧ i = .int .i64 k ∧ Hid (R = doneAll G (l.drop k)) ∧ Hid (GoodF F.length G) ∧ Hid (wr.ownsRow (w.heap.size + 1 + 1) 9 1 (.slice (some ⟨g, 0, none⟩) F.length gc) F.length (G.flatMap strC)) ∧ Hid (CellsAt wr X 24 #[.slice (some ⟨g, 0, none⟩) F.length gc]) ∧ Hid (CellsAt wr (w.heap.size + 1) 24 #[.slice none 0 0]) ∧ Hid (Below w.heap.size w wr)) (fun i _ => l.length - (intOf i).toNat)
  case atStart => exact ⟨0, F, Nat.zero_le _, rfl, HI0, HG0, HO4, HX4, HR4, HB4⟩
  case round =>
    obtain ⟨k, G, hk, rfl, HI, HG, HO, HX, HR, HB⟩ := hrel
    clear HI0 HG0 HO4 HX4 HR4 HB4
    by_cases hlt : k < l.length
    · obtain ⟨d, hd⟩ : ∃ d, l[k]? = some d := ⟨_, List.getElem?_eq_getElem hlt⟩
      rcases hlrow with h | ⟨bl, offl, rfl, hbl, hcl⟩
      · subst h; simp at hlt
      have d0 := (HB.out.cell (p := ⟨bl, offl + k * 3 + 0, none⟩) hbl).trans (hcl k _ hd 0 (by omega))
      have d1 := (HB.out.cell (p := ⟨bl, offl + k * 3 + 1, none⟩) hbl).trans (hcl k _ hd 1 (by omega))
      have d2 := (HB.out.cell (p := ⟨bl, offl + k * 3 + 2, none⟩) hbl).trans (hcl k _ hd 2 (by omega))
      dsimp only [Deed.cell] at d0 d1 d2
      rw [Nat.add_zero] at d0
      have h0d := HDS.out d (List.mem_of_getElem? hd)
      have HN : Hid (R = doneAll (doneB G d) (l.drop (k + 1))) := by
        show R = _
        rw [HI.out, drop_at hd, HSTEP.out]
      have HDN : Hid (doneB G d = G.set (dBlk d) ⟨(dBytes G d).toArray⟩) := rfl
      have hblk : dBlk d < F.length := dBlk_lt h0d
      have hGl : G.length = F.length := HG.out.1
      have HCD : Hid (∀ W, Below wr.heap.size wr W → Calls Try.prog 35 #[.agg #[.slice (some ⟨g, 0, none⟩) F.length gc], .agg #[.int .i64 d.kind, .int .i64 d.pos, .int .i64 d.val]] W fun e w' => (∃ g cap, e = .returned (.tuple #[.int .i64 (dBlk d : Int), .slice (some ⟨g, 0, none⟩) 128 cap]) ∧ CellsB w' g (dBytes G d) ∧ (dBytes G d).length = 128 ∧ W.heap.size ≤ g ∧ 128 ≤ cap ∧ cap ≤ 9223372036854775807) ∧ Below W.heap.size W w') := fun W hb => by
        have ho := own_below HO.out hb
        rw [← hGl] at ho
        have := rDeedBytes_any G _ d W (own_rows (C := strC) (cells := strCell) (sz := 1) (fun _ => rfl) strC_at ho (by omega)) HG.out.chk (by rw [hGl]; exact h0d)
        rw [hGl] at this
        exact this
      have HGN : Hid ((dBytes G d).length = 128 → GoodF F.length (doneB G d)) := fun h => by
        rw [HDN.out]
        exact HG.out.set _ _ (by rw [size_mk, h])
      have hblr : bl < wr.heap.size := Nat.lt_of_lt_of_le hbl HB.out.size
      clear hcl hd HI h0d
      generalize doneB G d = G' at *
      generalize dBytes G d = DB at *
      generalize dBlk d = q at *
      obtain ⟨kd, ps, dv⟩ := d
      dsimp only at *
      have hS : CellsAt wr.drew X 24 #[.slice (some ⟨g, 0, none⟩) F.length gc] ∧ wr.drew.cell? ⟨bl, offl + k * 3, none⟩ = some (.int .i64 kd) ∧ wr.drew.cell? ⟨bl, offl + k * 3 + 1, none⟩ = some (.int .i64 ps) ∧ wr.drew.cell? ⟨bl, offl + k * 3 + 2, none⟩ = some (.int .i64 dv) := ⟨HX.out, d0, d1, d2⟩
      have HBd : Hid (Below wr.heap.size wr wr.drew) := (Below.refl _ _).drew
      clear d0 d1 d2
      go_wp2_with fail
      refine wp_region_noPanic ?_
      refine wp_region_L (S := fun w' => CellsAt w' X 24 #[.slice (some ⟨g, 0, none⟩) F.length gc] ∧ w'.cell? ⟨bl, offl + k * 3, none⟩ = some (.int .i64 kd) ∧ w'.cell? ⟨bl, offl + k * 3 + 1, none⟩ = some (.int .i64 ps) ∧ w'.cell? ⟨bl, offl + k * 3 + 2, none⟩ = some (.int .i64 dv)) (x := 10) (by kernel_rfl) ?_
      generalize wr.drew = w5 at *
      refine wpL_take 0 21 (.agg #[.slice (some ⟨g, 0, none⟩) F.length gc]) rfl (by kernel_rfl) (fun _ _ _ h => h) hS rfl rfl (fun w' hSw => by obtain ⟨q0, q1, q2, q3⟩ := hSw; have q4 := q0.cell 0; simp at q4; clear q0; go_simp) ?_
      simp only [List.setIfInBounds_toArray, List.set_cons_zero, List.set_cons_succ]
      refine wpL_take 1 22 (.slice (some ⟨bl, offl, none⟩) l.length lcap) rfl (by kernel_rfl) (fun _ _ _ h => h) hS rfl rfl (fun w' hSw => by clear hSw; go_simp) ?_
      simp only [List.setIfInBounds_toArray, List.set_cons_zero, List.set_cons_succ]
      refine wpL_take 2 23 (.int .i64 (k : Int)) rfl (by kernel_rfl) (fun _ _ _ h => h) hS rfl rfl (fun w' hSw => by clear hSw; go_simp) ?_
      simp only [List.setIfInBounds_toArray, List.set_cons_zero, List.set_cons_succ]
      refine wpL_take 3 24 (.pointer (some ⟨bl, offl + k * 3, none⟩)) rfl (by kernel_rfl) (fun _ _ _ h => h) hS rfl rfl (fun w' hSw => by clear hSw; go_simp) ?_
      simp only [List.setIfInBounds_toArray, List.set_cons_zero, List.set_cons_succ]
      refine wpL_take 4 25 (.agg #[.int .i64 kd, .int .i64 ps, .int .i64 dv]) rfl (by kernel_rfl) (fun _ _ _ h => h) hS rfl rfl (fun w' hSw => by obtain ⟨q0, q1, q2, q3⟩ := hSw; have q4 := q0.cell 0; simp at q4; clear q0; go_simp) ?_
      simp only [List.setIfInBounds_toArray, List.set_cons_zero, List.set_cons_succ]
      refine wpL_step (i := 5) rfl (by kernel_rfl) (fun K hK => ?_)
      go_simp
      refine (HCD.out _ HBd.out).mono ?_
      rintro e w6 ⟨⟨g2, c2, rfl, hC6, hl6, hg6, hc6, hm6⟩, b6⟩
      have hB6 := HBd.out.trans (b6.mono HBd.out.size)
      have hblr5 : bl < w5.heap.size := Nat.lt_of_lt_of_le hblr HBd.out.size
      have hS6 : CellsAt w6 X 24 #[.slice (some ⟨g, 0, none⟩) F.length gc] ∧ w6.cell? ⟨bl, offl + k * 3, none⟩ = some (.int .i64 kd) ∧ w6.cell? ⟨bl, offl + k * 3 + 1, none⟩ = some (.int .i64 ps) ∧ w6.cell? ⟨bl, offl + k * 3 + 2, none⟩ = some (.int .i64 dv) := ⟨hS.1.below b6 hS.1.lt, (b6.cell (p := ⟨bl, offl + k * 3, none⟩) hblr5).trans hS.2.1, (b6.cell (p := ⟨bl, offl + k * 3 + 1, none⟩) hblr5).trans hS.2.2.1, (b6.cell (p := ⟨bl, offl + k * 3 + 2, none⟩) hblr5).trans hS.2.2.2⟩
      have HC6 : Hid (CellsB w6 g2 DB) := hC6
      have HB6 : Hid (Below wr.heap.size wr w6) := hB6
      have HL6 : Hid (DB.length = 128) := hl6
      go_simp
      refine hK.out _ _ hS6 (fun _ => ?_)
      clear hK K hS HBd b6 HCD hC6 hl6 hB6
      refine wpL_take 6 20 (.tuple #[.int .i64 (q : Int), .slice (some ⟨g2, 0, none⟩) 128 c2]) rfl (by kernel_rfl) (fun _ _ _ h => h) hS6 rfl rfl (fun w' hSw => by clear hSw; go_simp) ?_
      simp only [List.setIfInBounds_toArray, List.set_cons_zero, List.set_cons_succ]
      refine wpL_take 7 27 (.int .i64 (q : Int)) rfl (by kernel_rfl) (fun _ _ _ h => h) hS6 rfl rfl (fun w' hSw => by clear hSw; go_simp) ?_
      simp only [List.setIfInBounds_toArray, List.set_cons_zero, List.set_cons_succ]
      refine wpL_take 8 28 (.slice (some ⟨g2, 0, none⟩) 128 c2) rfl (by kernel_rfl) (fun _ _ _ h => h) hS6 rfl rfl (fun w' hSw => by clear hSw; go_simp) ?_
      simp only [List.setIfInBounds_toArray, List.set_cons_zero, List.set_cons_succ]
      refine wpL_take 9 7 (.int .i64 (q : Int)) rfl (by kernel_rfl) (fun _ _ _ h => h) hS6 rfl rfl (fun w' hSw => by clear hSw; go_simp) ?_
      simp only [List.setIfInBounds_toArray, List.set_cons_zero, List.set_cons_succ]
      refine wpL_last (x := 10) rfl (by kernel_rfl) (by kernel_rfl) (fun K hK => ?_)
      go_simp
      refine hK.out _ _ ?_
      refine NoPanic.normal ?_
      clear hK K hS6
      have ho6 := own_below HO.out HB6.out
      have hx6 := HX.out.below HB6.out HX.out.lt
      have hr6 := HR.out.below HB6.out HR.out.lt
      have HO6 : Hid (w6.ownsRow (w.heap.size + 1 + 1) 9 1 (.slice (some ⟨g, 0, none⟩) F.length gc) F.length (G.flatMap strC)) := ho6
      have HX6 : Hid (CellsAt w6 X 24 #[.slice (some ⟨g, 0, none⟩) F.length gc]) := hx6
      have HR6 : Hid (CellsAt w6 (w.heap.size + 1) 24 #[.slice none 0 0]) := hr6
      have x0 := hx6.cell 0
      simp at x0
      have hqg : q < (G.flatMap strC).length := by rw [flatStr_length]; omega
      obtain ⟨old, hold⟩ : ∃ u, (G.flatMap strC)[q]? = some u := ⟨_, List.getElem?_eq_getElem hqg⟩
      have r0 := own_cell ho6 q old hold
      have r1 := own_frozen ho6 q
      have hcv := convDB HC6.out HL6.out c2
      have HGN2 : Hid (GoodF F.length G') := HGN.out HL6.out
      clear ho6 hx6 hr6 HO HX HR HGN hqg hold
      generalize (⟨DB.toArray⟩ : ByteArray) = xb at *
      go_wp2
      obtain ⟨o1, g1⟩ := HO6.out.stored q (.string xb)
      rw [flatStr_set, ← HDN.out] at o1
      exact ⟨⟨k + 1, G', by omega, by go_num, HN, HGN2, o1, HX6.out.kept g1 (by intro e; injection e with e; omega), HR6.out.kept g1 (by have := own_block HO6.out g rfl; intro e; injection e with e; omega), (HB.out.trans (HB6.out.mono HB.out.size)).setCell (by have := own_block HO6.out g rfl; simp; omega) _⟩, by simp [intOf]; omega⟩
    · obtain rfl : k = l.length := by omega
      have HZ : Hid (R = G) := by
        show R = G
        rw [HI.out, List.drop_length, HEND.out]
      have x0 := HX.out.cell 0
      simp at x0
      have r0 := HR.out.cell 0
      have r1 := HR.out.frozen 0
      simp at r0
      clear HI
      go_wp2
      have hF := HR.out.set 0 (.slice (some ⟨g, 0, none⟩) F.length gc)
      simp only [List.setIfInBounds_toArray, List.set_cons_zero] at hF
      refine bodyPost_ret (results_cell_row rfl _ _ _ _ _ _ _ rfl hF Try.underlying24 rfl (by kernel_rfl)) rfl ?_
      have ho := HO.out.kept (grown_set wr (w.heap.size + 1) 0 (.slice (some ⟨g, 0, none⟩) F.length gc)) (.inr (by intro e; have := own_block HO.out g rfl; simp [Value.ownBlock] at e; omega))
      rw [HZ.out]
      exact ⟨⟨_, rfl, ⟨ho.1, ho.2.imp id (fun ⟨g, cap, cur, h1, h2, h3⟩ => ⟨g, cap, cur, h1, by omega, h3⟩)⟩, HG.out⟩, HB.out.setCell (by simp) _⟩

end Go.Proofs.Ytnomapbiklfciaf
