/- Texts that are laid together. -/
import Derived.Test.YthmohjgdcjafkagMrgO
import Derived.Test.YthmohjgdcjafkagMrgM

/- The contract of the document's NewFlash. -/
namespace Go.Proofs.Ythmohjgdcjafkag
open Go.RowKit Go.PlainAid Go.Lib

set_option maxRecDepth 100000

def ffB (n : Nat) : ByteArray := ⟨(List.replicate n 255).toArray⟩
theorem ffB_next (n : Nat) : ffB n ++ ⟨#[255]⟩ = ffB (n + 1) := by
  unfold ffB
  apply ByteArray.ext
  apply Array.toList_inj.1
  rw [ByteArray.data_append, List.replicate_succ']
  simp
theorem ffB_size (n : Nat) : (ffB n).size = n := by simp [ffB, ByteArray.size]

set_option maxHeartbeats 4000000 in
theorem rNew_any (n : Nat) (hn : n ≤ 32) (w : World) :
    Calls Try.prog 38 #[.int .i64 n] w fun e w' => (∃ r, e = .returned (.agg #[r]) ∧ w'.ownsRow w.heap.size 9 1 r n ((List.replicate n (ffB 128)).flatMap strC)) ∧ Below w.heap.size w w' := by
  obtain ⟨is, his, hs0, hs1, hs2⟩ := infoStrF_parts
  have HF : Hid (∀ k, ffB k ++ ⟨#[255]⟩ = ffB (k + 1)) := ffB_next
  have HZ : Hid (∀ k, (ffB k).size = k) := ffB_size
  have HB1 : Hid (Below w.heap.size w (w.alloc (.cells #[.slice none 0 0] 26))) := (Below.refl _ _).alloc (Nat.le_refl _) _
  have HR1 : Hid (CellsAt (w.alloc (.cells #[.slice none 0 0] 26)) w.heap.size 26 #[.slice none 0 0]) := CellsAt.new _ _ _
  go_enter Try.func38, Try.ntmps38
  go_wp2
  go_loop [3, 4] (fun s i => ∃ (j : Nat) (t : ByteArray), j ≤ 128 ∧ i = .int .i64 j ∧ s = .string t ∧ Hid (t = ffB j)) (fun _ i => 128 - (intOf i).toNat)
  case atStart => exact ⟨0, ⟨#[]⟩, by omega, rfl, rfl, (rfl : (⟨#[]⟩ : ByteArray) = ffB 0)⟩
  case round =>
    obtain ⟨j, t, hj, rfl, rfl, HT⟩ := hrel
    by_cases hlt : j < 128
    · have hsz : t.size = j := by rw [HT.out, HZ.out]
      have hbig : ¬ (9223372036854775807 < t.size + 1) := by omega
      have HN : Hid (t ++ ⟨#[255]⟩ = ffB (j + 1)) := by show t ++ _ = _; rw [HT.out, HF.out]
      go_wp2
      exact ⟨⟨j + 1, t ++ ⟨#[255]⟩, by omega, by go_num, rfl, HN⟩, by simp [intOf]; omega⟩
    · obtain rfl : j = 128 := by omega
      have HR2 : Hid (CellsAt ((w.alloc (.cells #[.slice none 0 0] 26)).alloc (.cells #[.slice none 0 0] 26)) w.heap.size 26 #[.slice none 0 0]) := HR1.out.kept (World.grownBy_alloc _ _ none) (by simp)
      have HV2 : Hid (CellsAt ((w.alloc (.cells #[.slice none 0 0] 26)).alloc (.cells #[.slice none 0 0] 26)) (w.heap.size + 1) 26 #[.slice none 0 0]) := by
        have := CellsAt.new (w.alloc (.cells #[.slice none 0 0] 26)) 26 #[.slice none 0 0]
        rw [World.size_alloc] at this
        exact this
      have HB2 : Hid (Below w.heap.size w ((w.alloc (.cells #[.slice none 0 0] 26)).alloc (.cells #[.slice none 0 0] 26))) := HB1.out.alloc (by simp) _
      have HTF : Hid (t = ffB 128) := HT
      have HS2 : Hid (w.heap.size + 2 ≤ ((w.alloc (.cells #[.slice none 0 0] 26)).alloc (.cells #[.slice none 0 0] 26)).heap.size) := by
        show _ ≤ _
        simp
      clear HR1 HB1 HF HZ HT
      go_wp2
      go_loopw [6] (fun i wr => ∃ (k : Nat) (v : Value), k ≤ n ∧ i = .int .i64 k ∧ Hid (CellsAt wr w.heap.size 26 #[.slice none 0 0]) ∧ Hid (CellsAt wr (w.heap.size + 1) 26 #[v]) ∧ Hid (wr.ownsRow (w.heap.size + 2) 9 1 v k ((List.replicate k t).flatMap strC)) ∧ Hid (Below w.heap.size w wr) ∧ Hid (w.heap.size + 2 ≤ wr.heap.size)) (fun i _ => n - (intOf i).toNat)
      case atStart => exact ⟨0, .slice none 0 0, Nat.zero_le _, rfl, HR2, HV2, World.ownsRow_nil _ _ _ _, HB2, HS2⟩
      case round =>
        obtain ⟨k, v, hk, rfl, HR, HV, HO, HB, HS⟩ := hrel
        clear HR2 HV2 HB2 HS2
        obtain ⟨av, kv, rfl⟩ := own_form HO.out
        have v0 := HV.out.cell 0
        have vf := HV.out.frozen 0
        simp at v0
        have hlt1 : w.heap.size + 1 < wr.heap.size := HV.out.lt
        by_cases hltk : k < n
        · have HA1 : Hid (CellsAt (wr.alloc (.cells #[.string t] 9)) wr.heap.size 9 #[.string t]) := CellsAt.new _ _ _
          have HAR : Hid (CellsAt (wr.alloc (.cells #[.string t] 9)) w.heap.size 26 #[.slice none 0 0]) := HR.out.kept (World.grownBy_alloc _ _ none) (by simp)
          have HAV : Hid (CellsAt (wr.alloc (.cells #[.string t] 9)) (w.heap.size + 1) 26 #[.slice av k kv]) := HV.out.kept (World.grownBy_alloc _ _ none) (by simp)
          have HAB : Hid (Below w.heap.size w (wr.alloc (.cells #[.string t] 9))) := HB.out.alloc HB.out.size _
          have HRP : Hid ((List.replicate k t).flatMap strC ++ [.string t] = (List.replicate (k + 1) t).flatMap strC) := by
            show _ = _
            rw [List.replicate_succ', List.flatMap_append]; rfl
          clear HR HV HB
          go_wp2_with (at_builtin; refine wpList_append_lies _ rfl _ _ _ rfl (w.heap.size + 2) 9 is _ 1 16 Try.underlying22 his hs0 hs1 hs2 rfl (by omega) (.slice av k kv) k ((List.replicate k t).flatMap strC) rfl (HO.out.alloc _) ⟨wr.heap.size, 0, none⟩ 1 1 [.string t] rfl rfl (World.news_of_block (cs := #[.string t]) (t := 9) (fr := (0, 0)) HA1.out) (by simp [Value.oneCell']) (by omega) (by unfold maxLen; omega) (by omega) (by have := HS.out; simp; omega) (wr.heap.size + 1) (by simp) ?_; intro g gc w8 hown8 hgrow hat hltg; have z8 := HAV.out.kept hgrow (fun e => by have := own_block HO.out _ e.symm; omega); have z0 := z8.cell 0; have zf := z8.frozen 0; simp at z0)
          have hO8 := hown8.kept (grown_set w8 (w.heap.size + 1) 0 (.slice (some ⟨g, 0, none⟩) (k + 1) gc)) (.inr (fun e => by have := own_block hown8 _ e; omega))
          rw [HRP.out] at hO8
          have hV8 := z8.set 0 (.slice (some ⟨g, 0, none⟩) (k + 1) gc)
          simp only [List.setIfInBounds_toArray, List.set_cons_zero] at hV8
          have hR8 := (HAR.out.kept hgrow (fun e => by have := own_block HO.out _ e.symm; omega)).kept (grown_set w8 (w.heap.size + 1) 0 (.slice (some ⟨g, 0, none⟩) (k + 1) gc)) (by simp)
          have hB8 := (HAB.out.grown hgrow HAB.out.size (fun q hq => by have := own_block HO.out q hq; omega)).setCell (p := ⟨w.heap.size + 1, 0, none⟩) (by simp) (.slice (some ⟨g, 0, none⟩) (k + 1) gc)
          have hS8 : w.heap.size + 2 ≤ (w8.setCell ⟨w.heap.size + 1, 0, none⟩ (.slice (some ⟨g, 0, none⟩) (k + 1) gc)).heap.size := by
            have h1 := hgrow.size
            have h2 := HS.out
            simp [World.setCell] at h1 ⊢
            omega
          exact ⟨⟨k + 1, _, by omega, by go_num, hR8, hV8, hO8, hB8, hS8⟩, by simp [intOf]; omega⟩
        · obtain rfl : k = n := by omega
          have r0 := HR.out.cell 0
          have rf := HR.out.frozen 0
          simp at r0
          go_wp2
          have hF := HR.out.set 0 (.slice av k kv)
          simp only [List.setIfInBounds_toArray, List.set_cons_zero] at hF
          refine bodyPost_ret (results_cell_row rfl _ _ _ _ _ _ _ rfl hF Try.underlying26 rfl (by kernel_rfl)) rfl ?_
          have ho := HO.out.kept (grown_set wr w.heap.size 0 (.slice av k kv)) (.inr (fun e => by have := own_block HO.out _ e; omega))
          rw [← HTF.out]
          exact ⟨⟨_, rfl, ho.1, ho.2.imp id (fun ⟨g, cap, cur, h1, h2, h3⟩ => ⟨g, cap, cur, h1, by omega, h3⟩)⟩, HB.out.setCell (Nat.le_refl _) _⟩

end Go.Proofs.Ythmohjgdcjafkag

/- The contract of the document's deedBytes. -/
namespace Go.Proofs.Ythmohjgdcjafkag
open Go.RowKit Go.PlainAid Go.Lib

set_option maxRecDepth 100000

/-- The block that a deed turns, and its bytes then. -/
def dBlk (d : Deed) : Nat := if d.kind = 2 then d.pos.toNat else d.pos.toNat / 128
def dBytes (F : List ByteArray) (d : Deed) : List UInt8 :=
  if d.kind = 2 then List.replicate 128 255
  else ((F.getD (d.pos.toNat / 128) ⟨#[]⟩).data.toList).set (d.pos.toNat % 128) (((F.getD (d.pos.toNat / 128) ⟨#[]⟩).data.toList.getD (d.pos.toNat % 128) 0) &&& UInt8.ofNat d.val.toNat)

theorem convBytes (w : World) (s : ByteArray) (hs : s.size ≤ 4096) : ∃ w' cap, (convert 9 56 (.string s)).run Try.prog w = .ok (.slice (some ⟨w.heap.size, 0, none⟩) s.size cap) w' ∧ CellsB w' w.heap.size s.data.toList ∧ Below w.heap.size w w' ∧ s.size ≤ cap ∧ cap ≤ 9223372036854775807 := by
  have h := run_bytes_of_string (P := Try.prog) w 9 56 5 s Try.underlying9 Try.underlying56 Try.underlying5
  obtain ⟨cap, hcap⟩ : ∃ cap, grownCap w s.size 0 5 = cap := ⟨_, rfl⟩
  have h1 := grownCap_ge w s.size 0 5
  have h2 := grownCap_le_maxLen w s.size 0 5 (by unfold maxLen; omega)
  rw [hcap] at h h1 h2
  unfold maxLen at h2
  refine ⟨_, cap, h, ⟨?_, fun j x hx => ?_, fun j hj => ?_⟩, ((Below.refl _ _).drew).alloc (Nat.le_refl _) _, h1, by omega⟩
  · rw [World.size_alloc]; exact Nat.lt_succ_self _
  · have hj := (List.getElem?_eq_some_iff.1 hx).1
    have := World.cell?_alloc_mark w.drew (bytesRow s cap) 5 ((bytesRow s cap).size, (bytesRow s cap).size + 1) j
    refine this.trans ?_
    rw [bytesRow_at _ _ _ (by simpa using hj)]
    have : s.data.toList[j]? = some s.data.toList[j] := List.getElem?_eq_getElem hj
    rw [hx] at this
    injection this with this
    simp [this]
  · have := World.frozen?_alloc_mark w.drew (bytesRow s cap) 5 (bytesRow s cap).size ((bytesRow s cap).size + 1) j
    refine this.trans ?_
    have hz : s.size ≤ (bytesRow s cap).size := by unfold bytesRow; simp
    have hl : s.data.toList.length = s.size := by simp
    rw [decide_eq_false (by omega)]
    rfl

set_option maxHeartbeats 8000000 in
theorem rDeedBytes_any (F : List ByteArray) (v : Value) (d : Deed) (w : World) (hF : RowOf 1 strCell w.heap.size w v F) (hf : chkFl F = 0) (h0 : chkDeed (F.length * 128) d = 0) :
    Calls Try.prog 27 #[.agg #[v], d.value] w fun e w' => (∃ g cap, e = .returned (.tuple #[.int .i64 (dBlk d : Int), .slice (some ⟨g, 0, none⟩) 128 cap]) ∧ CellsB w' g (dBytes F d) ∧ (dBytes F d).length = 128 ∧ w.heap.size ≤ g ∧ 128 ≤ cap ∧ cap ≤ 9223372036854775807) ∧ Below w.heap.size w w' := by
  obtain ⟨p0, v0, v1, hle, key⟩ := deed_right h0
  have hall : ∀ b ∈ F, b.size = 128 := by
    rcases chkFl_cases F with ⟨e, _⟩ | ⟨e, _⟩ | ⟨_, _, _, h⟩
    · rw [e] at hf; cases hf
    · rw [e] at hf; cases hf
    · exact h
  have hl := (joinM_bound hf).2.1
  obtain ⟨a, cap, rfl, hmx, hrow⟩ := hF
  clear h0 hf
  rcases key with ⟨hk, hst, hmn⟩ | ⟨hk, hv, hst, hmn⟩
  · -- a program
    have hq : d.pos.toNat / 128 < F.length := by omega
    obtain ⟨x, hx⟩ : ∃ x, F[d.pos.toNat / 128]? = some x := ⟨_, List.getElem?_eq_getElem hq⟩
    have hxs : x.size = 128 := hall x (List.mem_of_getElem? hx)
    have HD : Hid (dBytes F d = x.data.toList.set (d.pos.toNat % 128) (x.data.toList.getD (d.pos.toNat % 128) 0 &&& UInt8.ofNat d.val.toNat)) := by
      show dBytes F d = _
      unfold dBytes
      rw [if_neg (by omega), List.getD_eq_getElem?_getD, hx]
      rfl
    have HK : Hid (dBlk d = d.pos.toNat / 128) := by show dBlk d = _; unfold dBlk; rw [if_neg (by omega)]
    have hB : ∃ y : UInt8, x.data.toList.getD (d.pos.toNat % 128) 0 = y ∧ x.data.toList[d.pos.toNat % 128]? = some y := by
      have hj : d.pos.toNat % 128 < x.data.toList.length := by
        have : x.data.toList.length = x.size := by simp
        have := Nat.mod_lt d.pos.toNat (by decide : 128 > 0)
        omega
      refine ⟨x.data.toList[d.pos.toNat % 128], ?_, List.getElem?_eq_getElem hj⟩
      rw [List.getD_eq_getElem?_getD, List.getElem?_eq_getElem hj]; rfl
    obtain ⟨y, hy1, hy2⟩ := hB
    rw [hy1] at HD
    have hvb : d.val = ((UInt8.ofNat d.val.toNat).toNat : Int) := by
      rw [UInt8.toNat_ofNat', Nat.mod_eq_of_lt (by omega)]; omega
    generalize UInt8.ofNat d.val.toNat = z at *
    generalize dBytes F d = DB at *
    generalize dBlk d = DK at *
    rcases hrow with h | ⟨b, off, rfl, hbn, hcells⟩
    · subst h; simp at hq
    have HC0 : Hid (w.cell? ⟨b, off + d.pos.toNat / 128, none⟩ = some (.string x)) := by
      have := hcells _ x hx 0 (by omega)
      rw [Nat.mul_one, Nat.add_zero] at this
      exact this
    obtain ⟨kd, ps, vl⟩ := d
    unfold Deed.value
    dsimp only at *
    obtain ⟨p, rfl⟩ : ∃ p : Nat, ps = p := ⟨ps.toNat, by omega⟩
    rw [Int.toNat_natCast] at *
    subst hk
    have ed : (p : Int) / 128 = ((p / 128 : Nat) : Int) := by omega
    have em : (p : Int) % 128 = ((p % 128 : Nat) : Int) := by omega
    have hm128 : p % 128 < 128 := Nat.mod_lt _ (by decide)
    generalize p / 128 = q at *
    generalize p % 128 = r at *
    clear hcells hx hall hst hmn hle
    have HB1 : Hid (Below w.heap.size w ((w.alloc (.cells #[.slice (some ⟨b, off, none⟩) F.length cap] 26)).alloc (.cells #[.int .i64 1, .int .i64 p, .int .i64 vl] 40))) := ((Below.refl _ _).alloc (Nat.le_refl _) _).alloc (by simp) _
    have HD1 : Hid (CellsAt ((w.alloc (.cells #[.slice (some ⟨b, off, none⟩) F.length cap] 26)).alloc (.cells #[.int .i64 1, .int .i64 p, .int .i64 vl] 40)) (w.heap.size + 1) 40 #[.int .i64 1, .int .i64 p, .int .i64 vl]) := by
      have := CellsAt.new (w.alloc (.cells #[.slice (some ⟨b, off, none⟩) F.length cap] 26)) 40 #[.int .i64 1, .int .i64 p, .int .i64 vl]
      rw [World.size_alloc] at this
      exact this
    obtain ⟨w4, kc, hcv, hC4, b4, hk1, hk2⟩ := convBytes ((w.alloc (.cells #[.slice (some ⟨b, off, none⟩) F.length cap] 26)).alloc (.cells #[.int .i64 1, .int .i64 p, .int .i64 vl] 40)) x (by omega)
    have c0 := HC0.out
    have HBO : Hid (∀ W, Calls Try.prog 39 #[.int .u8 (y.toNat : Int), .int .u8 vl] W fun e w' => e = .returned (.int .u8 ((y &&& z).toNat : Int)) ∧ w' = W) := fun W => by rw [hvb]; exact both_any y z W
    generalize y &&& z = u at *
    clear hvb
    have HD4 : Hid (CellsAt w4 (w.heap.size + 1) 40 #[.int .i64 1, .int .i64 p, .int .i64 vl]) := HD1.out.below b4 HD1.out.lt
    have HB4 : Hid (Below w.heap.size w w4) := HB1.out.trans (b4.mono HB1.out.size)
    simp only [World.size_alloc] at hC4 hcv
    rw [hxs] at hcv hk1
    have HC4 : Hid (CellsB w4 (w.heap.size + 1 + 1) x.data.toList) := hC4
    clear hC4 b4 HB1 HD1 HC0
    go_enter Try.func27, Try.ntmps27
    go_wp2_with fail
    refine wp_region_noPanic ?_
    refine wp_region_L (S := fun w' => CellsAt w' (w.heap.size + 1) 40 #[.int .i64 1, .int .i64 p, .int .i64 vl] ∧ CellsB w' (w.heap.size + 1 + 1) x.data.toList) (x := 15) (by kernel_rfl) ?_
    have HD5 : Hid (CellsAt w4.drew (w.heap.size + 1) 40 #[.int .i64 1, .int .i64 p, .int .i64 vl]) := HD4.out
    have HC5 : Hid (CellsB w4.drew (w.heap.size + 1 + 1) x.data.toList) := ⟨HC4.out.lt, HC4.out.holds, HC4.out.free⟩
    have HB5 : Hid (Below w.heap.size w w4.drew) := HB4.out.drew
    clear HD4 HC4 HB4 hcv
    generalize w4.drew = w5 at *
    have hri : ¬ ((128 : Int) ≤ (r : Int)) := by omega
    have et : (p : Int).tmod 128 = (r : Int) := by rw [Int.tmod_eq_emod_of_nonneg (by omega), em]
    have ew : IntKind.u8.wrap vl = vl := by rw [IntKind.wrap_u8]; omega
    have hS : CellsAt w5 (w.heap.size + 1) 40 #[.int .i64 1, .int .i64 p, .int .i64 vl] ∧ CellsB w5 (w.heap.size + 1 + 1) x.data.toList := ⟨HD5.out, HC5.out⟩
    refine wpL_take 0 25 (.slice (some ⟨w.heap.size + 1 + 1, 0, none⟩) 128 kc) rfl (by kernel_rfl) (fun _ _ _ h => h) hS rfl rfl (fun w' hSw => by clear hSw; go_simp) ?_
    simp only [List.setIfInBounds_toArray, List.set_cons_zero, List.set_cons_succ]
    refine wpL_take 1 26 (.pointer (some ⟨w.heap.size + 1, 1, none⟩)) rfl (by kernel_rfl) (fun _ _ _ h => h) hS rfl rfl (fun w' hSw => by have q0 := hSw.1.cell 0; have q1 := hSw.1.cell 1; have q2 := hSw.1.cell 2; simp at q0 q1 q2; have ql := hSw.1.lt; clear hSw; go_simp) ?_
    simp only [List.setIfInBounds_toArray, List.set_cons_zero, List.set_cons_succ]
    refine wpL_take 2 27 (.int .i64 (p : Int)) rfl (by kernel_rfl) (fun _ _ _ h => h) hS rfl rfl (fun w' hSw => by have q0 := hSw.1.cell 0; have q1 := hSw.1.cell 1; have q2 := hSw.1.cell 2; simp at q0 q1 q2; have ql := hSw.1.lt; clear hSw; go_simp) ?_
    simp only [List.setIfInBounds_toArray, List.set_cons_zero, List.set_cons_succ]
    refine wpL_take 3 28 (.int .i64 (r : Int)) rfl (by kernel_rfl) (fun _ _ _ h => h) hS rfl rfl (fun w' hSw => by clear hSw; go_simp) ?_
    simp only [List.setIfInBounds_toArray, List.set_cons_zero, List.set_cons_succ]
    refine wpL_take 4 29 (.slice (some ⟨w.heap.size + 1 + 1, 0, none⟩) 128 kc) rfl (by kernel_rfl) (fun _ _ _ h => h) hS rfl rfl (fun w' hSw => by clear hSw; go_simp) ?_
    simp only [List.setIfInBounds_toArray, List.set_cons_zero, List.set_cons_succ]
    refine wpL_take 5 30 (.pointer (some ⟨w.heap.size + 1, 1, none⟩)) rfl (by kernel_rfl) (fun _ _ _ h => h) hS rfl rfl (fun w' hSw => by have q0 := hSw.1.cell 0; have q1 := hSw.1.cell 1; have q2 := hSw.1.cell 2; simp at q0 q1 q2; have ql := hSw.1.lt; clear hSw; go_simp) ?_
    simp only [List.setIfInBounds_toArray, List.set_cons_zero, List.set_cons_succ]
    refine wpL_take 6 31 (.int .i64 (p : Int)) rfl (by kernel_rfl) (fun _ _ _ h => h) hS rfl rfl (fun w' hSw => by have q0 := hSw.1.cell 0; have q1 := hSw.1.cell 1; have q2 := hSw.1.cell 2; simp at q0 q1 q2; have ql := hSw.1.lt; clear hSw; go_simp) ?_
    simp only [List.setIfInBounds_toArray, List.set_cons_zero, List.set_cons_succ]
    refine wpL_take 7 32 (.int .i64 (r : Int)) rfl (by kernel_rfl) (fun _ _ _ h => h) hS rfl rfl (fun w' hSw => by clear hSw; go_simp) ?_
    simp only [List.setIfInBounds_toArray, List.set_cons_zero, List.set_cons_succ]
    refine wpL_take 8 33 (.pointer (some ⟨w.heap.size + 1 + 1, r, none⟩)) rfl (by kernel_rfl) (fun _ _ _ h => h) hS rfl rfl (fun w' hSw => by clear hSw; go_simp) ?_
    simp only [List.setIfInBounds_toArray, List.set_cons_zero, List.set_cons_succ]
    refine wpL_take 9 34 (.int .u8 (y.toNat : Int)) rfl (by kernel_rfl) (fun _ _ _ h => h) hS rfl rfl (fun w' hSw => by have q0 := hSw.2.holds r y hy2; clear hSw; go_simp) ?_
    simp only [List.setIfInBounds_toArray, List.set_cons_zero, List.set_cons_succ]
    refine wpL_take 10 35 (.pointer (some ⟨w.heap.size + 1, 2, none⟩)) rfl (by kernel_rfl) (fun _ _ _ h => h) hS rfl rfl (fun w' hSw => by have q0 := hSw.1.cell 0; have q1 := hSw.1.cell 1; have q2 := hSw.1.cell 2; simp at q0 q1 q2; have ql := hSw.1.lt; clear hSw; go_simp) ?_
    simp only [List.setIfInBounds_toArray, List.set_cons_zero, List.set_cons_succ]
    refine wpL_take 11 36 (.int .i64 vl) rfl (by kernel_rfl) (fun _ _ _ h => h) hS rfl rfl (fun w' hSw => by have q0 := hSw.1.cell 0; have q1 := hSw.1.cell 1; have q2 := hSw.1.cell 2; simp at q0 q1 q2; have ql := hSw.1.lt; clear hSw; go_simp) ?_
    simp only [List.setIfInBounds_toArray, List.set_cons_zero, List.set_cons_succ]
    refine wpL_take 12 37 (.int .u8 vl) rfl (by kernel_rfl) (fun _ _ _ h => h) hS rfl rfl (fun w' hSw => by clear hSw; go_simp) ?_
    simp only [List.setIfInBounds_toArray, List.set_cons_zero, List.set_cons_succ]
    refine wpL_step (i := 13) rfl (by kernel_rfl) (fun K hK => ?_)
    go_simp
    refine (HBO.out _).mono ?_
    rintro e wz ⟨rfl, rfl⟩
    go_simp
    refine hK.out _ _ hS (fun _ => ?_)
    clear hK K
    refine wpL_take 14 39 (.pointer (some ⟨w.heap.size + 1 + 1, r, none⟩)) rfl (by kernel_rfl) (fun _ _ _ h => h) hS rfl rfl (fun w' hSw => by clear hSw; go_simp) ?_
    simp only [List.setIfInBounds_toArray, List.set_cons_zero, List.set_cons_succ]
    refine wpL_last (x := 15) rfl (by kernel_rfl) (by kernel_rfl) (fun K hK => ?_)
    have c1 := hS.2.holds r y hy2
    have c2 := hS.2.free r (by have := (List.getElem?_eq_some_iff.1 hy2).1; exact this)
    clear hS
    go_simp
    refine hK.out _ _ ?_
    refine NoPanic.normal ?_
    clear hK K
    have HCS : Hid (CellsB (wz.setCell ⟨w.heap.size + 1 + 1, r, none⟩ (.int .u8 (u.toNat : Int))) (w.heap.size + 1 + 1) (x.data.toList.set r u)) := HC5.out.set r u (List.getElem?_eq_some_iff.1 hy2).1
    have hDS := HD5.out.kept (grown_set wz (w.heap.size + 1 + 1) r (.int .u8 (u.toNat : Int))) (by simp)
    have HBS : Hid (Below w.heap.size w (wz.setCell ⟨w.heap.size + 1 + 1, r, none⟩ (.int .u8 (u.toNat : Int)))) := HB5.out.setCell (by simp; omega) _
    have d1 := hDS.cell 1
    simp at d1
    clear HC5 HD5 HB5 hDS c1 c2
    generalize wz.setCell ⟨w.heap.size + 1 + 1, r, none⟩ (.int .u8 (u.toNat : Int)) = w6 at *
    go_wp2
    go_ret2
    rw [HD.out, HK.out]
    have hxl : x.data.toList.length = x.size := by simp
    exact ⟨⟨_, _, rfl, HCS.out, by rw [List.length_set, hxl, hxs], by omega, hk1, hk2⟩, HBS.out⟩
  · -- an erasure
    have HD : Hid (dBytes F d = List.replicate 128 255) := if_pos hk
    have HK : Hid (dBlk d = d.pos.toNat) := if_pos hk
    generalize dBytes F d = DB at *
    generalize dBlk d = DK at *
    obtain ⟨kd, ps, vl⟩ := d
    unfold Deed.value
    dsimp only at *
    obtain ⟨p, rfl⟩ : ∃ p : Nat, ps = p := ⟨ps.toNat, by omega⟩
    rw [Int.toNat_natCast] at *
    subst hk hv
    clear hst hmn hle hrow hall
    have HB1 : Hid (Below w.heap.size w ((w.alloc (.cells #[.slice a F.length cap] 26)).alloc (.cells #[.int .i64 2, .int .i64 p, .int .i64 0] 40))) := ((Below.refl _ _).alloc (Nat.le_refl _) _).alloc (by simp) _
    have HD1 : Hid (CellsAt ((w.alloc (.cells #[.slice a F.length cap] 26)).alloc (.cells #[.int .i64 2, .int .i64 p, .int .i64 0] 40)) (w.heap.size + 1) 40 #[.int .i64 2, .int .i64 p, .int .i64 0]) := by
      have := CellsAt.new (w.alloc (.cells #[.slice a F.length cap] 26)) 40 #[.int .i64 2, .int .i64 p, .int .i64 0]
      rw [World.size_alloc] at this
      exact this
    have HNW : Hid (∀ W, Calls Try.prog 38 #[.int .i64 1] W fun e w' => (∃ r, e = .returned (.agg #[r]) ∧ w'.ownsRow W.heap.size 9 1 r 1 ((List.replicate 1 (ffB 128)).flatMap strC)) ∧ Below W.heap.size W w') := fun W => rNew_any 1 (by decide) W
    have HFB : Hid ((ffB 128).data.toList = List.replicate 128 255 ∧ (ffB 128).size = 128) := ⟨by unfold ffB; rfl, ffB_size 128⟩
    generalize ffB 128 = fb at *
    go_enter Try.func27, Try.ntmps27
    go_wp2_with fail
    refine wp_region_noPanic ?_
    refine wp_region_L (S := fun w' => CellsAt w' (w.heap.size + 1) 40 #[.int .i64 2, .int .i64 p, .int .i64 0]) (x := 8) (by kernel_rfl) ?_
    have HD5 : Hid (CellsAt ((w.alloc (.cells #[.slice a F.length cap] 26)).alloc (.cells #[.int .i64 2, .int .i64 p, .int .i64 0] 40)).drew (w.heap.size + 1) 40 #[.int .i64 2, .int .i64 p, .int .i64 0]) := HD1.out
    have HB5 : Hid (Below w.heap.size w ((w.alloc (.cells #[.slice a F.length cap] 26)).alloc (.cells #[.int .i64 2, .int .i64 p, .int .i64 0] 40)).drew) := HB1.out.drew
    clear HD1 HB1
    generalize ((w.alloc (.cells #[.slice a F.length cap] 26)).alloc (.cells #[.int .i64 2, .int .i64 p, .int .i64 0] 40)).drew = w5 at *
    have hS : CellsAt w5 (w.heap.size + 1) 40 #[.int .i64 2, .int .i64 p, .int .i64 0] := HD5.out
    refine wpL_take 0 10 (.pointer (some ⟨w.heap.size + 1, 1, none⟩)) rfl (by kernel_rfl) (fun _ _ _ h => h) hS rfl rfl (fun w' hSw => by have q0 := CellsAt.cell hSw 0; have q1 := CellsAt.cell hSw 1; have q2 := CellsAt.cell hSw 2; simp at q0 q1 q2; have ql := CellsAt.lt hSw; clear hSw; go_simp) ?_
    simp only [List.setIfInBounds_toArray, List.set_cons_zero, List.set_cons_succ]
    refine wpL_take 1 11 (.int .i64 (p : Int)) rfl (by kernel_rfl) (fun _ _ _ h => h) hS rfl rfl (fun w' hSw => by have q0 := CellsAt.cell hSw 0; have q1 := CellsAt.cell hSw 1; have q2 := CellsAt.cell hSw 2; simp at q0 q1 q2; have ql := CellsAt.lt hSw; clear hSw; go_simp) ?_
    simp only [List.setIfInBounds_toArray, List.set_cons_zero, List.set_cons_succ]
    refine wpL_step (i := 2) rfl (by kernel_rfl) (fun K hK => ?_)
    go_simp
    refine (HNW.out _).mono ?_
    rintro e w6 ⟨⟨rr, rfl, ho⟩, b6⟩
    have hS6 : CellsAt w6 (w.heap.size + 1) 40 #[.int .i64 2, .int .i64 p, .int .i64 0] := CellsAt.below hS b6 (CellsAt.lt hS)
    have HB6 : Hid (Below w.heap.size w w6) := HB5.out.trans (b6.mono HB5.out.size)
    go_simp
    refine hK.out _ _ hS6 (fun _ => ?_)
    clear hK K hS HD5 HB5 b6
    have ho6 : ∃ g c, rr = .slice (some ⟨g, 0, none⟩) 1 c ∧ w6.cell? ⟨g, 0, none⟩ = some (.string fb) := by
      rcases ho.2 with ⟨_, h⟩ | ⟨g, c, cur, rfl, _⟩
      · cases h
      · exact ⟨g, c, rfl, own_cell ho 0 _ (by rfl)⟩
    obtain ⟨g, c, rfl, hg⟩ := ho6
    have hfd : ∀ w : World, (Instr.field 26 (.agg #[.slice (some ⟨g, 0, none⟩) 1 c]) 0).run Try.prog w = .ok (.slice (some ⟨g, 0, none⟩) 1 c) w := fun _ => by kernel_rfl
    refine wpL_take 7 4 (.int .i64 (p : Int)) rfl (by kernel_rfl) (fun _ _ _ h => h) hS6 rfl rfl (fun w' hSw => by clear hSw; go_simp) ?_
    simp only [List.setIfInBounds_toArray, List.set_cons_zero, List.set_cons_succ]
    have HG6 : Hid (w6.cell? ⟨g, 0, none⟩ = some (.string fb)) := hg
    have HSS : Hid (CellsAt w6 (w.heap.size + 1) 40 #[.int .i64 2, .int .i64 p, .int .i64 0]) := hS6
    clear hg hS6 ho
    refine wpL_step (i := 3) rfl (by kernel_rfl) (fun K hK => ?_)
    go_simp
    refine hK.out _ _ HSS.out (fun _ => ?_)
    clear hK K
    refine wpL_step (i := 4) rfl (by kernel_rfl) (fun K hK => ?_)
    go_simp
    refine hK.out _ _ HSS.out (fun _ => ?_)
    clear hK K
    refine wpL_step (i := 5) rfl (by kernel_rfl) (fun K hK => ?_)
    have hg := HG6.out
    go_simp
    refine hK.out _ _ HSS.out (fun _ => ?_)
    clear hK K hg
    obtain ⟨w7, kc, hcv, hC7, b7, hk1, hk2⟩ := convBytes w6 fb (by rw [HFB.out.2]; decide)
    rw [HFB.out.2] at hcv hk1
    rw [HFB.out.1] at hC7
    have HC7 : Hid (CellsB w7 w6.heap.size (List.replicate 128 255)) := hC7
    have HB7 : Hid (Below w.heap.size w w7) := HB6.out.trans (b7.mono HB6.out.size)
    have HS7 : Hid (CellsAt w7 (w.heap.size + 1) 40 #[.int .i64 2, .int .i64 p, .int .i64 0]) := HSS.out.below b7 HSS.out.lt
    have HSZ : Hid (w.heap.size ≤ w6.heap.size) := HB6.out.size
    clear hC7 b7 HSS HG6 HB6 hfd
    refine wpL_step (i := 6) rfl (by kernel_rfl) (fun K hK => ?_)
    go_simp
    refine hK.out _ _ HS7.out (fun _ => ?_)
    clear hK K
    clear hcv
    refine wpL_last (x := 8) rfl (by kernel_rfl) (by kernel_rfl) (fun K hK => ?_)
    go_simp
    refine hK.out _ _ ?_
    refine NoPanic.normal ?_
    clear hK K
    go_wp2
    go_ret2
    rw [HD.out, HK.out]
    exact ⟨⟨_, _, rfl, HC7.out, List.length_replicate, HSZ.out, hk1, hk2⟩, HB7.out⟩

end Go.Proofs.Ythmohjgdcjafkag

/- The contract of the document's DoneOf. -/
namespace Go.Proofs.Ythmohjgdcjafkag
open Go.RowKit Go.PlainAid Go.Lib

set_option maxRecDepth 100000

def doneB (F : List ByteArray) (d : Deed) : List ByteArray := F.set (dBlk d) ⟨(dBytes F d).toArray⟩
def doneAll (F : List ByteArray) (l : List Deed) : List ByteArray := l.foldl doneB F
/-- A flash that is right. -/
def GoodF (n : Nat) (F : List ByteArray) : Prop := F.length = n ∧ 1 ≤ n ∧ n ≤ 32 ∧ ∀ b ∈ F, b.size = 128
theorem goodF_iff {F : List ByteArray} : chkFl F = 0 ↔ GoodF F.length F := by
  constructor
  · intro h
    rcases chkFl_cases F with ⟨e, _⟩ | ⟨e, _⟩ | ⟨_, h1, h2, h3⟩
    · rw [e] at h; cases h
    · rw [e] at h; cases h
    · exact ⟨rfl, h1, h2, h3⟩
  · rintro ⟨_, h1, h2, h3⟩
    rcases chkFl_cases F with ⟨_, h⟩ | ⟨_, _, _, b, hb, hne⟩ | ⟨h, _⟩
    · omega
    · exact absurd (h3 b hb) hne
    · exact h
theorem GoodF.chk {n : Nat} {F : List ByteArray} (h : GoodF n F) : chkFl F = 0 := goodF_iff.2 (by rw [h.1]; exact h)
theorem GoodF.set {n : Nat} {F : List ByteArray} (h : GoodF n F) (k : Nat) (x : ByteArray) (hx : x.size = 128) : GoodF n (F.set k x) := by
  refine ⟨by rw [List.length_set]; exact h.1, h.2.1, h.2.2.1, fun b hb => ?_⟩
  rcases List.mem_or_eq_of_mem_set hb with h1 | rfl
  · exact h.2.2.2 b h1
  · exact hx
theorem size_mk (c : List UInt8) : (⟨c.toArray⟩ : ByteArray).size = c.length := by simp [ByteArray.size]
theorem flatStr_set : ∀ (G : List ByteArray) (k : Nat) (x : ByteArray), (G.flatMap strC).set k (.string x) = (G.set k x).flatMap strC
  | [], k, x => by simp
  | y :: G, 0, x => rfl
  | y :: G, k + 1, x => by
    show Value.string y :: (G.flatMap strC).set k (.string x) = Value.string y :: (G.set k x).flatMap strC
    rw [flatStr_set G k x]
theorem flatStr_length (G : List ByteArray) : (G.flatMap strC).length = G.length := by rw [flat_len (sz := 1) (fun _ => rfl)]; omega
theorem chkDs_zero {n : Nat} : ∀ {l : List Deed} {e : Int}, chkDs n e l = 0 → e = 0 ∧ ∀ d ∈ l, chkDeed n d = 0
  | [], e, h => ⟨h, fun d hd => by simp at hd⟩
  | d :: r, e, h => by
    unfold chkDs at h
    by_cases he : e = 0
    · rw [if_pos he] at h
      obtain ⟨h1, h2⟩ := chkDs_zero h
      exact ⟨he, fun x hx => by rcases List.mem_cons.1 hx with rfl | hx; exact h1; exact h2 x hx⟩
    · rw [if_neg he] at h
      exact absurd h he
theorem dBlk_lt {n : Nat} {d : Deed} (h : chkDeed (n * 128) d = 0) : dBlk d < n := by
  obtain ⟨h1, h2, h3, h4, h5⟩ := deed_right h
  unfold dBlk
  rcases h5 with ⟨hk, hs, hm⟩ | ⟨hk, _, hs, hm⟩
  · rw [if_neg (by omega)]; omega
  · rw [if_pos hk]; omega
theorem convDB {W : World} {g : Nat} {c : List UInt8} (h : CellsB W g c) (hl : c.length = 128) (cap : Nat) :
    (convert 56 9 (.slice (some ⟨g, 0, none⟩) 128 cap)).run Try.prog W = .ok (.string ⟨c.toArray⟩) W := by
  have := run_convert_bytes_back (P := Try.prog) W 56 9 5 ⟨g, 0, none⟩ cap c Try.underlying56 Try.underlying5 Try.underlying9 (fun j hj => by
    have hadd : (⟨g, 0, none⟩ : Addr).add j = ⟨g, j, none⟩ := by unfold Addr.add; split <;> simp_all
    rw [hadd]
    exact h.holds j _ (List.getElem?_eq_getElem hj))
  rw [hl] at this
  exact this

/-- append([]string{}, l...). -/
theorem copyStr {W : World} {b off n cap B : Nat} {F : List ByteArray} (hF : F.length = n) (h0 : 1 ≤ n) (hn : n ≤ 4096)
    (hc : ∀ j x, F[j]? = some x → W.cell? ⟨b, off + j, none⟩ = some (.string x)) (he : CellsAt W B 9 #[]) {ops : Array Oper} {rest : List Oper} {o : Oper} {a : Act} {Q : Exit → Act → World → Prop} (hgd : o.guard = none) (s x : Operand)
    (ho : o.op = .call { callee := .builtin .append, args := #[s, x], argTypes := #[22, 22] }) (hs : a.eval s = .slice (some ⟨B, 0, none⟩) 0 0) (hx : a.eval x = .slice (some ⟨b, off, none⟩) n cap)
    (h : ∀ g c W', W'.ownsRow B 9 1 (.slice (some ⟨g, 0, none⟩) n c) n (F.flatMap strC) → W.grownBy W' (some B) → wpList Try.prog ops Q rest (a.put o.dst (.slice (some ⟨g, 0, none⟩) n c)) W') : wpList Try.prog ops Q (o :: rest) a W := by
  obtain ⟨is, his, hs0, hs1, hs2⟩ := infoStrF_parts
  refine wpList_append_lies _ hgd s x 22 ho B 9 is _ 1 16 Try.underlying22 his hs0 hs1 hs2 rfl (by omega) (.slice (some ⟨B, 0, none⟩) 0 0) 0 [] hs ⟨rfl, .inr ⟨B, 0, #[], rfl, Nat.le_refl _, he, Nat.le_refl _, Nat.zero_le _, rfl, rfl⟩⟩ ⟨b, off, none⟩ n cap (F.flatMap strC) hx (by rw [flatStr_length, hF, Nat.mul_one]) (fun j u hu => ?_) (fun u hu => ?_) (by omega) (by unfold maxLen; omega) (by omega) (Nat.le_of_lt he.lt) W.heap.size rfl ?_
  · have hj : j < F.length := by have := (List.getElem?_eq_some_iff.1 hu).1; rwa [flatStr_length] at this
    have h1 := flat_at (C := strC) (sz := 1) (fun _ => rfl) F j F[j] 0 (List.getElem?_eq_getElem hj) (by omega)
    rw [Nat.mul_one, Nat.add_zero] at h1
    rw [hu] at h1
    injection h1 with h1
    subst h1
    have hadd : (⟨b, off, none⟩ : Addr).add j = ⟨b, off + j, none⟩ := by unfold Addr.add; split <;> simp_all
    rw [hadd]
    exact hc j _ (List.getElem?_eq_getElem hj)
  · obtain ⟨y, _, hy⟩ := List.mem_flatMap.1 hu
    have : u = .string y := by simpa [strC] using hy
    rw [this]; rfl
  · intro g c W' hown hgr _ _
    rw [Nat.zero_add, List.nil_append] at hown
    rw [Nat.zero_add]
    exact h g c W' hown hgr

set_option maxHeartbeats 8000000 in
theorem rDone_any (F : List ByteArray) (v : Value) (l : List Deed) (vl : Value) (w : World) (hF : RowOf 1 strCell w.heap.size w v F) (hl : RowOf 3 Deed.cell w.heap.size w vl l) (h0 : chkDeeds F l = 0) :
    Calls Try.prog 13 #[.agg #[v], vl] w fun e w' => (∃ r, e = .returned (.agg #[r]) ∧ w'.ownsRow w.heap.size 9 1 r F.length ((doneAll F l).flatMap strC) ∧ GoodF F.length (doneAll F l)) ∧ Below w.heap.size w w' := by
  obtain ⟨hf, hds⟩ := chkDs_zero h0
  have hG0 : GoodF F.length F := goodF_iff.1 hf
  have HDS : Hid (∀ d ∈ l, chkDeed (F.length * 128) d = 0) := hds
  have HI0 : Hid (doneAll F l = doneAll F (l.drop 0)) := rfl
  have HSTEP : Hid (∀ G d r, doneAll G (d :: r) = doneAll (doneB G d) r) := fun _ _ _ => rfl
  have HEND : Hid (∀ G, doneAll G [] = G) := fun _ => rfl
  obtain ⟨a, cap, rfl, hmx, hrow⟩ := hF
  obtain ⟨la, lcap, rfl, hlm, hlrow⟩ := hl
  have hn1 : 1 ≤ F.length := hG0.2.1
  have hn2 : F.length ≤ 32 := hG0.2.2.1
  have HG0 : Hid (GoodF F.length F) := hG0
  clear h0 hf hds hG0
  rcases hrow with h | ⟨b, off, rfl, hbn, hcells⟩
  · subst h; simp at hn1
  have HCL : Hid (∀ j x, F[j]? = some x → w.cell? ⟨b, off + j, none⟩ = some (.string x)) := fun j x hx => by
    have := hcells j x hx 0 (by omega)
    rw [Nat.mul_one, Nat.add_zero] at this
    exact this
  clear hcells
  generalize doneAll F l = R at *
  have HB1 : Hid (Below w.heap.size w (((w.alloc (.cells #[.slice (some ⟨b, off, none⟩) F.length cap] 26)).alloc (.cells #[.slice none 0 0] 26)).alloc (.cells #[] 9))) := (((Below.refl _ _).alloc (Nat.le_refl _) _).alloc (by simp) _).alloc (by simp; omega) _
  have HR1 : Hid (CellsAt (((w.alloc (.cells #[.slice (some ⟨b, off, none⟩) F.length cap] 26)).alloc (.cells #[.slice none 0 0] 26)).alloc (.cells #[] 9)) (w.heap.size + 1) 26 #[.slice none 0 0]) := by
    have := CellsAt.new (w.alloc (.cells #[.slice (some ⟨b, off, none⟩) F.length cap] 26)) 26 #[.slice none 0 0]
    rw [World.size_alloc] at this
    exact this.kept (World.grownBy_alloc _ _ none) (by simp)
  have HE1 : Hid (CellsAt (((w.alloc (.cells #[.slice (some ⟨b, off, none⟩) F.length cap] 26)).alloc (.cells #[.slice none 0 0] 26)).alloc (.cells #[] 9)) (w.heap.size + 1 + 1) 9 #[]) := by
    have := CellsAt.new ((w.alloc (.cells #[.slice (some ⟨b, off, none⟩) F.length cap] 26)).alloc (.cells #[.slice none 0 0] 26)) 9 #[]
    simp only [World.size_alloc] at this
    exact this
  go_enter Try.func13, Try.ntmps13
  go_wp2_with (at_builtin; refine copyStr rfl hn1 (by omega) (fun j x hx => (HB1.out.cell (p := ⟨b, off + j, none⟩) hbn).trans (HCL.out j x hx)) HE1.out rfl _ _ rfl rfl rfl ?_; intro g gc w3 hown hgr)
  have hgl : g < w3.heap.size := own_lt hown
  have HB3 : Hid (Below w.heap.size w w3) := HB1.out.grown hgr (by have := HB1.out.size; exact this) (fun k e => by injection e with e; omega)
  have HR3 : Hid (CellsAt w3 (w.heap.size + 1) 26 #[.slice none 0 0]) := HR1.out.kept hgr (by intro e; injection e with e; omega)
  have HO4 : Hid ((w3.alloc (.cells #[.slice (some ⟨g, 0, none⟩) F.length gc] 26)).ownsRow (w.heap.size + 1 + 1) 9 1 (.slice (some ⟨g, 0, none⟩) F.length gc) F.length (F.flatMap strC)) := hown.alloc _
  have HX4 : Hid (CellsAt (w3.alloc (.cells #[.slice (some ⟨g, 0, none⟩) F.length gc] 26)) w3.heap.size 26 #[.slice (some ⟨g, 0, none⟩) F.length gc]) := CellsAt.new _ _ _
  have HR4 : Hid (CellsAt (w3.alloc (.cells #[.slice (some ⟨g, 0, none⟩) F.length gc] 26)) (w.heap.size + 1) 26 #[.slice none 0 0]) := HR3.out.kept (World.grownBy_alloc _ _ none) (by simp)
  have HB4 : Hid (Below w.heap.size w (w3.alloc (.cells #[.slice (some ⟨g, 0, none⟩) F.length gc] 26))) := HB3.out.alloc HB3.out.size _
  have hXl : w.heap.size + 1 < w3.heap.size := HR3.out.lt
  clear hown hgr HB1 HR1 HE1 HB3 HR3
  generalize hX : w3.heap.size = X at *
  generalize (w3.alloc (.cells #[.slice (some ⟨g, 0, none⟩) F.length gc] 26)) = w4 at *
  clear hX
  go_loopw [6] (fun i wr => ∃ (k : Nat) (G : List ByteArray), k ≤ l.length ∧ i = .int .i64 k ∧ Hid (R = doneAll G (l.drop k)) ∧ Hid (GoodF F.length G) ∧ Hid (wr.ownsRow (w.heap.size + 1 + 1) 9 1 (.slice (some ⟨g, 0, none⟩) F.length gc) F.length (G.flatMap strC)) ∧ Hid (CellsAt wr X 26 #[.slice (some ⟨g, 0, none⟩) F.length gc]) ∧ Hid (CellsAt wr (w.heap.size + 1) 26 #[.slice none 0 0]) ∧ Hid (Below w.heap.size w wr)) (fun i _ => l.length - (intOf i).toNat)
  case atStart => exact ⟨0, F, Nat.zero_le _, rfl, HI0, HG0, HO4, HX4, HR4, HB4⟩
  case round =>
    obtain ⟨k, G, hk, rfl, HI, HG, HO, HX, HR, HB⟩ := hrel
    clear HI0 HG0 HO4 HX4 HR4 HB4
    by_cases hlt : k < l.length
    · obtain ⟨d, hd⟩ : ∃ d, l[k]? = some d := ⟨_, List.getElem?_eq_getElem hlt⟩
      rcases hlrow with h | ⟨bl, offl, rfl, hbl, hcl⟩
      · subst h; simp at hlt
      have d0 := (HB.out.cell (p := ⟨bl, offl + k * 3 + 0, none⟩) hbl).trans (hcl k _ hd 0 (by omega))
      have d1 := (HB.out.cell (p := ⟨bl, offl + k * 3 + 1, none⟩) hbl).trans (hcl k _ hd 1 (by omega))
      have d2 := (HB.out.cell (p := ⟨bl, offl + k * 3 + 2, none⟩) hbl).trans (hcl k _ hd 2 (by omega))
      dsimp only [Deed.cell] at d0 d1 d2
      rw [Nat.add_zero] at d0
      have h0d := HDS.out d (List.mem_of_getElem? hd)
      have HN : Hid (R = doneAll (doneB G d) (l.drop (k + 1))) := by
        show R = _
        rw [HI.out, drop_at hd, HSTEP.out]
      have HDN : Hid (doneB G d = G.set (dBlk d) ⟨(dBytes G d).toArray⟩) := rfl
      have hblk : dBlk d < F.length := dBlk_lt h0d
      have hGl : G.length = F.length := HG.out.1
      have HCD : Hid (∀ W, Below wr.heap.size wr W → Calls Try.prog 27 #[.agg #[.slice (some ⟨g, 0, none⟩) F.length gc], .agg #[.int .i64 d.kind, .int .i64 d.pos, .int .i64 d.val]] W fun e w' => (∃ g cap, e = .returned (.tuple #[.int .i64 (dBlk d : Int), .slice (some ⟨g, 0, none⟩) 128 cap]) ∧ CellsB w' g (dBytes G d) ∧ (dBytes G d).length = 128 ∧ W.heap.size ≤ g ∧ 128 ≤ cap ∧ cap ≤ 9223372036854775807) ∧ Below W.heap.size W w') := fun W hb => by
        have ho := own_below HO.out hb
        rw [← hGl] at ho
        have := rDeedBytes_any G _ d W (own_rows (C := strC) (cells := strCell) (sz := 1) (fun _ => rfl) strC_at ho (by omega)) HG.out.chk (by rw [hGl]; exact h0d)
        rw [hGl] at this
        exact this
      have HGN : Hid ((dBytes G d).length = 128 → GoodF F.length (doneB G d)) := fun h => by
        rw [HDN.out]
        exact HG.out.set _ _ (by rw [size_mk, h])
      have hblr : bl < wr.heap.size := Nat.lt_of_lt_of_le hbl HB.out.size
      clear hcl hd HI h0d
      generalize doneB G d = G' at *
      generalize dBytes G d = DB at *
      generalize dBlk d = q at *
      obtain ⟨kd, ps, dv⟩ := d
      dsimp only at *
      have hS : CellsAt wr.drew X 26 #[.slice (some ⟨g, 0, none⟩) F.length gc] ∧ wr.drew.cell? ⟨bl, offl + k * 3, none⟩ = some (.int .i64 kd) ∧ wr.drew.cell? ⟨bl, offl + k * 3 + 1, none⟩ = some (.int .i64 ps) ∧ wr.drew.cell? ⟨bl, offl + k * 3 + 2, none⟩ = some (.int .i64 dv) := ⟨HX.out, d0, d1, d2⟩
      have HBd : Hid (Below wr.heap.size wr wr.drew) := (Below.refl _ _).drew
      clear d0 d1 d2
      go_wp2_with fail
      refine wp_region_noPanic ?_
      refine wp_region_L (S := fun w' => CellsAt w' X 26 #[.slice (some ⟨g, 0, none⟩) F.length gc] ∧ w'.cell? ⟨bl, offl + k * 3, none⟩ = some (.int .i64 kd) ∧ w'.cell? ⟨bl, offl + k * 3 + 1, none⟩ = some (.int .i64 ps) ∧ w'.cell? ⟨bl, offl + k * 3 + 2, none⟩ = some (.int .i64 dv)) (x := 10) (by kernel_rfl) ?_
      generalize wr.drew = w5 at *
      refine wpL_take 0 21 (.agg #[.slice (some ⟨g, 0, none⟩) F.length gc]) rfl (by kernel_rfl) (fun _ _ _ h => h) hS rfl rfl (fun w' hSw => by obtain ⟨q0, q1, q2, q3⟩ := hSw; have q4 := q0.cell 0; simp at q4; clear q0; go_simp) ?_
      simp only [List.setIfInBounds_toArray, List.set_cons_zero, List.set_cons_succ]
      refine wpL_take 1 22 (.slice (some ⟨bl, offl, none⟩) l.length lcap) rfl (by kernel_rfl) (fun _ _ _ h => h) hS rfl rfl (fun w' hSw => by clear hSw; go_simp) ?_
      simp only [List.setIfInBounds_toArray, List.set_cons_zero, List.set_cons_succ]
      refine wpL_take 2 23 (.int .i64 (k : Int)) rfl (by kernel_rfl) (fun _ _ _ h => h) hS rfl rfl (fun w' hSw => by clear hSw; go_simp) ?_
      simp only [List.setIfInBounds_toArray, List.set_cons_zero, List.set_cons_succ]
      refine wpL_take 3 24 (.pointer (some ⟨bl, offl + k * 3, none⟩)) rfl (by kernel_rfl) (fun _ _ _ h => h) hS rfl rfl (fun w' hSw => by clear hSw; go_simp) ?_
      simp only [List.setIfInBounds_toArray, List.set_cons_zero, List.set_cons_succ]
      refine wpL_take 4 25 (.agg #[.int .i64 kd, .int .i64 ps, .int .i64 dv]) rfl (by kernel_rfl) (fun _ _ _ h => h) hS rfl rfl (fun w' hSw => by obtain ⟨q0, q1, q2, q3⟩ := hSw; have q4 := q0.cell 0; simp at q4; clear q0; go_simp) ?_
      simp only [List.setIfInBounds_toArray, List.set_cons_zero, List.set_cons_succ]
      refine wpL_step (i := 5) rfl (by kernel_rfl) (fun K hK => ?_)
      go_simp
      refine (HCD.out _ HBd.out).mono ?_
      rintro e w6 ⟨⟨g2, c2, rfl, hC6, hl6, hg6, hc6, hm6⟩, b6⟩
      have hB6 := HBd.out.trans (b6.mono HBd.out.size)
      have hblr5 : bl < w5.heap.size := Nat.lt_of_lt_of_le hblr HBd.out.size
      have hS6 : CellsAt w6 X 26 #[.slice (some ⟨g, 0, none⟩) F.length gc] ∧ w6.cell? ⟨bl, offl + k * 3, none⟩ = some (.int .i64 kd) ∧ w6.cell? ⟨bl, offl + k * 3 + 1, none⟩ = some (.int .i64 ps) ∧ w6.cell? ⟨bl, offl + k * 3 + 2, none⟩ = some (.int .i64 dv) := ⟨hS.1.below b6 hS.1.lt, (b6.cell (p := ⟨bl, offl + k * 3, none⟩) hblr5).trans hS.2.1, (b6.cell (p := ⟨bl, offl + k * 3 + 1, none⟩) hblr5).trans hS.2.2.1, (b6.cell (p := ⟨bl, offl + k * 3 + 2, none⟩) hblr5).trans hS.2.2.2⟩
      have HC6 : Hid (CellsB w6 g2 DB) := hC6
      have HB6 : Hid (Below wr.heap.size wr w6) := hB6
      have HL6 : Hid (DB.length = 128) := hl6
      go_simp
      refine hK.out _ _ hS6 (fun _ => ?_)
      clear hK K hS HBd b6 HCD hC6 hl6 hB6
      refine wpL_take 6 20 (.tuple #[.int .i64 (q : Int), .slice (some ⟨g2, 0, none⟩) 128 c2]) rfl (by kernel_rfl) (fun _ _ _ h => h) hS6 rfl rfl (fun w' hSw => by clear hSw; go_simp) ?_
      simp only [List.setIfInBounds_toArray, List.set_cons_zero, List.set_cons_succ]
      refine wpL_take 7 27 (.int .i64 (q : Int)) rfl (by kernel_rfl) (fun _ _ _ h => h) hS6 rfl rfl (fun w' hSw => by clear hSw; go_simp) ?_
      simp only [List.setIfInBounds_toArray, List.set_cons_zero, List.set_cons_succ]
      refine wpL_take 8 28 (.slice (some ⟨g2, 0, none⟩) 128 c2) rfl (by kernel_rfl) (fun _ _ _ h => h) hS6 rfl rfl (fun w' hSw => by clear hSw; go_simp) ?_
      simp only [List.setIfInBounds_toArray, List.set_cons_zero, List.set_cons_succ]
      refine wpL_take 9 7 (.int .i64 (q : Int)) rfl (by kernel_rfl) (fun _ _ _ h => h) hS6 rfl rfl (fun w' hSw => by clear hSw; go_simp) ?_
      simp only [List.setIfInBounds_toArray, List.set_cons_zero, List.set_cons_succ]
      refine wpL_last (x := 10) rfl (by kernel_rfl) (by kernel_rfl) (fun K hK => ?_)
      go_simp
      refine hK.out _ _ ?_
      refine NoPanic.normal ?_
      clear hK K hS6
      have ho6 := own_below HO.out HB6.out
      have hx6 := HX.out.below HB6.out HX.out.lt
      have hr6 := HR.out.below HB6.out HR.out.lt
      have HO6 : Hid (w6.ownsRow (w.heap.size + 1 + 1) 9 1 (.slice (some ⟨g, 0, none⟩) F.length gc) F.length (G.flatMap strC)) := ho6
      have HX6 : Hid (CellsAt w6 X 26 #[.slice (some ⟨g, 0, none⟩) F.length gc]) := hx6
      have HR6 : Hid (CellsAt w6 (w.heap.size + 1) 26 #[.slice none 0 0]) := hr6
      have x0 := hx6.cell 0
      simp at x0
      have hqg : q < (G.flatMap strC).length := by rw [flatStr_length]; omega
      obtain ⟨old, hold⟩ : ∃ u, (G.flatMap strC)[q]? = some u := ⟨_, List.getElem?_eq_getElem hqg⟩
      have r0 := own_cell ho6 q old hold
      have r1 := own_frozen ho6 q
      have hcv := convDB HC6.out HL6.out c2
      have HGN2 : Hid (GoodF F.length G') := HGN.out HL6.out
      clear ho6 hx6 hr6 HO HX HR HGN hqg hold
      generalize (⟨DB.toArray⟩ : ByteArray) = xb at *
      go_wp2
      obtain ⟨o1, g1⟩ := HO6.out.stored q (.string xb)
      rw [flatStr_set, ← HDN.out] at o1
      exact ⟨⟨k + 1, G', by omega, by go_num, HN, HGN2, o1, HX6.out.kept g1 (by intro e; injection e with e; omega), HR6.out.kept g1 (by have := own_block HO6.out g rfl; intro e; injection e with e; omega), (HB.out.trans (HB6.out.mono HB.out.size)).setCell (by have := own_block HO6.out g rfl; simp; omega) _⟩, by simp [intOf]; omega⟩
    · obtain rfl : k = l.length := by omega
      have HZ : Hid (R = G) := by
        show R = G
        rw [HI.out, List.drop_length, HEND.out]
      have x0 := HX.out.cell 0
      simp at x0
      have r0 := HR.out.cell 0
      have r1 := HR.out.frozen 0
      simp at r0
      clear HI
      go_wp2
      have hF := HR.out.set 0 (.slice (some ⟨g, 0, none⟩) F.length gc)
      simp only [List.setIfInBounds_toArray, List.set_cons_zero] at hF
      refine bodyPost_ret (results_cell_row rfl _ _ _ _ _ _ _ rfl hF Try.underlying26 rfl (by kernel_rfl)) rfl ?_
      have ho := HO.out.kept (grown_set wr (w.heap.size + 1) 0 (.slice (some ⟨g, 0, none⟩) F.length gc)) (.inr (by intro e; have := own_block HO.out g rfl; simp [Value.ownBlock] at e; omega))
      rw [HZ.out]
      exact ⟨⟨_, rfl, ⟨ho.1, ho.2.imp id (fun ⟨g, cap, cur, h1, h2, h3⟩ => ⟨g, cap, cur, h1, by omega, h3⟩)⟩, HG.out⟩, HB.out.setCell (by simp) _⟩

end Go.Proofs.Ythmohjgdcjafkag
