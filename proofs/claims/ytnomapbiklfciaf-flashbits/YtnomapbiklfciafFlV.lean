/- The contract of the document's deedBytes. -/
import Derived.Test.YtnomapbiklfciafFlU
namespace Go.Proofs.Ytnomapbiklfciaf
open Go.RowKit Go.PlainAid Go.Lib

set_option maxRecDepth 100000

/-- The block that a deed turns, and its bytes then. -/
def dBlk (d : Deed) : Nat := if d.kind = 2 then d.pos.toNat else d.pos.toNat / 128
def dBytes (F : List ByteArray) (d : Deed) : List UInt8 :=
  if d.kind = 2 then List.replicate 128 255
  else ((F.getD (d.pos.toNat / 128) ⟨#[]⟩).data.toList).set (d.pos.toNat % 128) (((F.getD (d.pos.toNat / 128) ⟨#[]⟩).data.toList.getD (d.pos.toNat % 128) 0) &&& UInt8.ofNat d.val.toNat)

theorem convBytes (w : World) (s : ByteArray) (hs : s.size ≤ 4096) : ∃ w' cap, (convert 9 57 (.string s)).run Try.prog w = .ok (.slice (some ⟨w.heap.size, 0, none⟩) s.size cap) w' ∧ CellsB w' w.heap.size s.data.toList ∧ Below w.heap.size w w' ∧ s.size ≤ cap ∧ cap ≤ 9223372036854775807 := by
  have h := run_bytes_of_string (P := Try.prog) w 9 57 5 s Try.underlying9 Try.underlying57 Try.underlying5
  obtain ⟨cap, hcap⟩ : ∃ cap, grownCap w s.size 0 5 = cap := ⟨_, rfl⟩
  have h1 := grownCap_ge w s.size 0 5
  have h2 := grownCap_le_maxLen w s.size 0 5 (by unfold maxLen; omega)
  rw [hcap] at h h1 h2
  unfold maxLen at h2
  refine ⟨_, cap, h, ⟨?_, fun j x hx => ?_, fun j hj => ?_⟩, ((Below.refl _ _).drew).alloc (Nat.le_refl _) _, h1, by omega⟩
  · rw [World.size_alloc]; exact Nat.lt_succ_self _
  · have hj := (List.getElem?_eq_some_iff.1 hx).1
    have := World.cell?_alloc_mark w.drew (bytesRow s cap) 5 ((bytesRow s cap).size, (bytesRow s cap).size + 1) j
    refine this.trans ?_
    rw [bytesRow_at _ _ _ (by simpa using hj)]
    have : s.data.toList[j]? = some s.data.toList[j] := List.getElem?_eq_getElem hj
    rw [hx] at this
    injection this with this
    simp [this]
  · have := World.frozen?_alloc_mark w.drew (bytesRow s cap) 5 (bytesRow s cap).size ((bytesRow s cap).size + 1) j
    refine this.trans ?_
    have hz : s.size ≤ (bytesRow s cap).size := by unfold bytesRow; simp
    have hl : s.data.toList.length = s.size := by simp
    rw [decide_eq_false (by omega)]
    rfl

set_option maxHeartbeats 8000000 in
theorem rDeedBytes_any (F : List ByteArray) (v : Value) (d : Deed) (w : World) (hF : RowOf 1 strCell w.heap.size w v F) (hf : chkFl F = 0) (h0 : chkDeed (F.length * 128) d = 0) :
    Calls Try.prog 35 #[.agg #[v], d.value] w fun e w' => (∃ g cap, e = .returned (.tuple #[.int .i64 (dBlk d : Int), .slice (some ⟨g, 0, none⟩) 128 cap]) ∧ CellsB w' g (dBytes F d) ∧ (dBytes F d).length = 128 ∧ w.heap.size ≤ g ∧ 128 ≤ cap ∧ cap ≤ 9223372036854775807) ∧ Below w.heap.size w w' := by
  obtain ⟨p0, v0, v1, hle, key⟩ := deed_right h0
  have hall : ∀ b ∈ F, b.size = 128 := by
    rcases chkFl_cases F with ⟨e, _⟩ | ⟨e, _⟩ | ⟨_, _, _, h⟩
    · rw [e] at hf; cases hf
    · rw [e] at hf; cases hf
    · exact h
  have hl := (joinM_bound hf).2.1
  obtain ⟨a, cap, rfl, hmx, hrow⟩ := hF
  clear h0 hf
  rcases key with ⟨hk, hst, hmn⟩ | ⟨hk, hv, hst, hmn⟩
  · -- a program
    have hq : d.pos.toNat / 128 < F.length := by omega
    obtain ⟨x, hx⟩ : ∃ x, F[d.pos.toNat / 128]? = some x := ⟨_, List.getElem?_eq_getElem hq⟩
    have hxs : x.size = 128 := hall x (List.mem_of_getElem? hx)
    have HD : Hid (dBytes F d = x.data.toList.set (d.pos.toNat % 128) (x.data.toList.getD (d.pos.toNat % 128) 0 &&& UInt8.ofNat d.val.toNat)) := by
      show dBytes F d = _
      unfold dBytes
      rw [if_neg (by omega), List.getD_eq_getElem?_getD, hx]
      rfl
    have HK : Hid (dBlk d = d.pos.toNat / 128) := by show dBlk d = _; unfold dBlk; rw [if_neg (by omega)]
    have hB : ∃ y : UInt8, x.data.toList.getD (d.pos.toNat % 128) 0 = y ∧ x.data.toList[d.pos.toNat % 128]? = some y := by
      have hj : d.pos.toNat % 128 < x.data.toList.length := by
        have : x.data.toList.length = x.size := by simp
        have := Nat.mod_lt d.pos.toNat (by decide : 128 > 0)
        omega
      refine ⟨x.data.toList[d.pos.toNat % 128], ?_, List.getElem?_eq_getElem hj⟩
      rw [List.getD_eq_getElem?_getD, List.getElem?_eq_getElem hj]; rfl
    obtain ⟨y, hy1, hy2⟩ := hB
    rw [hy1] at HD
    have hvb : d.val = ((UInt8.ofNat d.val.toNat).toNat : Int) := by
      rw [UInt8.toNat_ofNat', Nat.mod_eq_of_lt (by omega)]; omega
    generalize UInt8.ofNat d.val.toNat = z at *
    generalize dBytes F d = DB at *
    generalize dBlk d = DK at *
    rcases hrow with h | ⟨b, off, rfl, hbn, hcells⟩
    · subst h; simp at hq
    have HC0 : Hid (w.cell? ⟨b, off + d.pos.toNat / 128, none⟩ = some (.string x)) := by
      have := hcells _ x hx 0 (by omega)
      rw [Nat.mul_one, Nat.add_zero] at this
      exact this
    obtain ⟨kd, ps, vl⟩ := d
    unfold Deed.value
    dsimp only at *
    obtain ⟨p, rfl⟩ : ∃ p : Nat, ps = p := ⟨ps.toNat, by omega⟩
    rw [Int.toNat_natCast] at *
    subst hk
    have ed : (p : Int) / 128 = ((p / 128 : Nat) : Int) := by omega
    have em : (p : Int) % 128 = ((p % 128 : Nat) : Int) := by omega
    have hm128 : p % 128 < 128 := Nat.mod_lt _ (by decide)
    generalize p / 128 = q at *
    generalize p % 128 = r at *
    clear hcells hx hall hst hmn hle
    have HB1 : Hid (Below w.heap.size w ((w.alloc (.cells #[.slice (some ⟨b, off, none⟩) F.length cap] 24)).alloc (.cells #[.int .i64 1, .int .i64 p, .int .i64 vl] 32))) := ((Below.refl _ _).alloc (Nat.le_refl _) _).alloc (by simp) _
    have HD1 : Hid (CellsAt ((w.alloc (.cells #[.slice (some ⟨b, off, none⟩) F.length cap] 24)).alloc (.cells #[.int .i64 1, .int .i64 p, .int .i64 vl] 32)) (w.heap.size + 1) 32 #[.int .i64 1, .int .i64 p, .int .i64 vl]) := by
      have := CellsAt.new (w.alloc (.cells #[.slice (some ⟨b, off, none⟩) F.length cap] 24)) 32 #[.int .i64 1, .int .i64 p, .int .i64 vl]
      rw [World.size_alloc] at this
      exact this
    obtain ⟨w4, kc, hcv, hC4, b4, hk1, hk2⟩ := convBytes ((w.alloc (.cells #[.slice (some ⟨b, off, none⟩) F.length cap] 24)).alloc (.cells #[.int .i64 1, .int .i64 p, .int .i64 vl] 32)) x (by omega)
    have c0 := HC0.out
    have HBO : Hid (∀ W, Calls Try.prog 50 #[.int .u8 (y.toNat : Int), .int .u8 vl] W fun e w' => e = .returned (.int .u8 ((y &&& z).toNat : Int)) ∧ w' = W) := fun W => by rw [hvb]; exact both_any y z W
    generalize y &&& z = u at *
    clear hvb
    have HD4 : Hid (CellsAt w4 (w.heap.size + 1) 32 #[.int .i64 1, .int .i64 p, .int .i64 vl]) := HD1.out.below b4 HD1.out.lt
    have HB4 : Hid (Below w.heap.size w w4) := HB1.out.trans (b4.mono HB1.out.size)
    simp only [World.size_alloc] at hC4 hcv
    rw [hxs] at hcv hk1
    have HC4 : Hid (CellsB w4 (w.heap.size + 1 + 1) x.data.toList) := hC4
    clear hC4 b4 HB1 HD1 HC0
    go_enter Try.func35, Try.ntmps35
    go_wp2_with fail
    refine wp_region_noPanic ?_
    refine wp_region_L (S := fun w' => CellsAt w' (w.heap.size + 1) 32 #[.int .i64 1, .int .i64 p, .int .i64 vl] ∧ CellsB w' (w.heap.size + 1 + 1) x.data.toList) (x := 15) (by kernel_rfl) ?_
    have HD5 : Hid (CellsAt w4.drew (w.heap.size + 1) 32 #[.int .i64 1, .int .i64 p, .int .i64 vl]) := HD4.out
    have HC5 : Hid (CellsB w4.drew (w.heap.size + 1 + 1) x.data.toList) := ⟨HC4.out.lt, HC4.out.holds, HC4.out.free⟩
    have HB5 : Hid (Below w.heap.size w w4.drew) := HB4.out.drew
    clear HD4 HC4 HB4 hcv
    generalize w4.drew = w5 at *
    have hri : ¬ ((128 : Int) ≤ (r : Int)) := by omega
    have et : (p : Int).tmod 128 = (r : Int) := by rw [Int.tmod_eq_emod_of_nonneg (by omega), em]
    have ew : IntKind.u8.wrap vl = vl := by rw [IntKind.wrap_u8]; omega
    have hS : CellsAt w5 (w.heap.size + 1) 32 #[.int .i64 1, .int .i64 p, .int .i64 vl] ∧ CellsB w5 (w.heap.size + 1 + 1) x.data.toList := ⟨HD5.out, HC5.out⟩
    refine wpL_take 0 25 (.slice (some ⟨w.heap.size + 1 + 1, 0, none⟩) 128 kc) rfl (by kernel_rfl) (fun _ _ _ h => h) hS rfl rfl (fun w' hSw => by clear hSw; go_simp) ?_
    simp only [List.setIfInBounds_toArray, List.set_cons_zero, List.set_cons_succ]
    refine wpL_take 1 26 (.pointer (some ⟨w.heap.size + 1, 1, none⟩)) rfl (by kernel_rfl) (fun _ _ _ h => h) hS rfl rfl (fun w' hSw => by have q0 := hSw.1.cell 0; have q1 := hSw.1.cell 1; have q2 := hSw.1.cell 2; simp at q0 q1 q2; have ql := hSw.1.lt; clear hSw; go_simp) ?_
    simp only [List.setIfInBounds_toArray, List.set_cons_zero, List.set_cons_succ]
    refine wpL_take 2 27 (.int .i64 (p : Int)) rfl (by kernel_rfl) (fun _ _ _ h => h) hS rfl rfl (fun w' hSw => by have q0 := hSw.1.cell 0; have q1 := hSw.1.cell 1; have q2 := hSw.1.cell 2; simp at q0 q1 q2; have ql := hSw.1.lt; clear hSw; go_simp) ?_
    simp only [List.setIfInBounds_toArray, List.set_cons_zero, List.set_cons_succ]
    refine wpL_take 3 28 (.int .i64 (r : Int)) rfl (by kernel_rfl) (fun _ _ _ h => h) hS rfl rfl (fun w' hSw => by clear hSw; go_simp) ?_
    simp only [List.setIfInBounds_toArray, List.set_cons_zero, List.set_cons_succ]
    refine wpL_take 4 29 (.slice (some ⟨w.heap.size + 1 + 1, 0, none⟩) 128 kc) rfl (by kernel_rfl) (fun _ _ _ h => h) hS rfl rfl (fun w' hSw => by clear hSw; go_simp) ?_
    simp only [List.setIfInBounds_toArray, List.set_cons_zero, List.set_cons_succ]
    refine wpL_take 5 30 (.pointer (some ⟨w.heap.size + 1, 1, none⟩)) rfl (by kernel_rfl) (fun _ _ _ h => h) hS rfl rfl (fun w' hSw => by have q0 := hSw.1.cell 0; have q1 := hSw.1.cell 1; have q2 := hSw.1.cell 2; simp at q0 q1 q2; have ql := hSw.1.lt; clear hSw; go_simp) ?_
    simp only [List.setIfInBounds_toArray, List.set_cons_zero, List.set_cons_succ]
    refine wpL_take 6 31 (.int .i64 (p : Int)) rfl (by kernel_rfl) (fun _ _ _ h => h) hS rfl rfl (fun w' hSw => by have q0 := hSw.1.cell 0; have q1 := hSw.1.cell 1; have q2 := hSw.1.cell 2; simp at q0 q1 q2; have ql := hSw.1.lt; clear hSw; go_simp) ?_
    simp only [List.setIfInBounds_toArray, List.set_cons_zero, List.set_cons_succ]
    refine wpL_take 7 32 (.int .i64 (r : Int)) rfl (by kernel_rfl) (fun _ _ _ h => h) hS rfl rfl (fun w' hSw => by clear hSw; go_simp) ?_
    simp only [List.setIfInBounds_toArray, List.set_cons_zero, List.set_cons_succ]
    refine wpL_take 8 33 (.pointer (some ⟨w.heap.size + 1 + 1, r, none⟩)) rfl (by kernel_rfl) (fun _ _ _ h => h) hS rfl rfl (fun w' hSw => by clear hSw; go_simp) ?_
    simp only [List.setIfInBounds_toArray, List.set_cons_zero, List.set_cons_succ]
    refine wpL_take 9 34 (.int .u8 (y.toNat : Int)) rfl (by kernel_rfl) (fun _ _ _ h => h) hS rfl rfl (fun w' hSw => by have q0 := hSw.2.holds r y hy2; clear hSw; go_simp) ?_
    simp only [List.setIfInBounds_toArray, List.set_cons_zero, List.set_cons_succ]
    refine wpL_take 10 35 (.pointer (some ⟨w.heap.size + 1, 2, none⟩)) rfl (by kernel_rfl) (fun _ _ _ h => h) hS rfl rfl (fun w' hSw => by have q0 := hSw.1.cell 0; have q1 := hSw.1.cell 1; have q2 := hSw.1.cell 2; simp at q0 q1 q2; have ql := hSw.1.lt; clear hSw; go_simp) ?_
    simp only [List.setIfInBounds_toArray, List.set_cons_zero, List.set_cons_succ]
    refine wpL_take 11 36 (.int .i64 vl) rfl (by kernel_rfl) (fun _ _ _ h => h) hS rfl rfl (fun w' hSw => by have q0 := hSw.1.cell 0; have q1 := hSw.1.cell 1; have q2 := hSw.1.cell 2; simp at q0 q1 q2; have ql := hSw.1.lt; clear hSw; go_simp) ?_
    simp only [List.setIfInBounds_toArray, List.set_cons_zero, List.set_cons_succ]
    refine wpL_take 12 37 (.int .u8 vl) rfl (by kernel_rfl) (fun _ _ _ h => h) hS rfl rfl (fun w' hSw => by clear hSw; go_simp) ?_
    simp only [List.setIfInBounds_toArray, List.set_cons_zero, List.set_cons_succ]
    refine wpL_step (i := 13) rfl (by kernel_rfl) (fun K hK => ?_)
    go_simp
    refine (HBO.out _).mono ?_
    rintro e wz ⟨rfl, rfl⟩
    go_simp
    refine hK.out _ _ hS (fun _ => ?_)
    clear hK K
    refine wpL_take 14 39 (.pointer (some ⟨w.heap.size + 1 + 1, r, none⟩)) rfl (by kernel_rfl) (fun _ _ _ h => h) hS rfl rfl (fun w' hSw => by clear hSw; go_simp) ?_
    simp only [List.setIfInBounds_toArray, List.set_cons_zero, List.set_cons_succ]
    refine wpL_last (x := 15) rfl (by kernel_rfl) (by kernel_rfl) (fun K hK => ?_)
    have c1 := hS.2.holds r y hy2
    have c2 := hS.2.free r (by have := (List.getElem?_eq_some_iff.1 hy2).1; exact this)
    clear hS
    go_simp
    refine hK.out _ _ ?_
    refine NoPanic.normal ?_
    clear hK K
    have HCS : Hid (CellsB (wz.setCell ⟨w.heap.size + 1 + 1, r, none⟩ (.int .u8 (u.toNat : Int))) (w.heap.size + 1 + 1) (x.data.toList.set r u)) := HC5.out.set r u (List.getElem?_eq_some_iff.1 hy2).1
    have hDS := HD5.out.kept (grown_set wz (w.heap.size + 1 + 1) r (.int .u8 (u.toNat : Int))) (by simp)
    have HBS : Hid (Below w.heap.size w (wz.setCell ⟨w.heap.size + 1 + 1, r, none⟩ (.int .u8 (u.toNat : Int)))) := HB5.out.setCell (by simp; omega) _
    have d1 := hDS.cell 1
    simp at d1
    clear HC5 HD5 HB5 hDS c1 c2
    generalize wz.setCell ⟨w.heap.size + 1 + 1, r, none⟩ (.int .u8 (u.toNat : Int)) = w6 at *
    go_wp2
    go_ret2
    rw [HD.out, HK.out]
    have hxl : x.data.toList.length = x.size := by simp
    exact ⟨⟨_, _, rfl, HCS.out, by rw [List.length_set, hxl, hxs], by omega, hk1, hk2⟩, HBS.out⟩
  · -- an erasure
    have HD : Hid (dBytes F d = List.replicate 128 255) := if_pos hk
    have HK : Hid (dBlk d = d.pos.toNat) := if_pos hk
    generalize dBytes F d = DB at *
    generalize dBlk d = DK at *
    obtain ⟨kd, ps, vl⟩ := d
    unfold Deed.value
    dsimp only at *
    obtain ⟨p, rfl⟩ : ∃ p : Nat, ps = p := ⟨ps.toNat, by omega⟩
    rw [Int.toNat_natCast] at *
    subst hk hv
    clear hst hmn hle hrow hall
    have HB1 : Hid (Below w.heap.size w ((w.alloc (.cells #[.slice a F.length cap] 24)).alloc (.cells #[.int .i64 2, .int .i64 p, .int .i64 0] 32))) := ((Below.refl _ _).alloc (Nat.le_refl _) _).alloc (by simp) _
    have HD1 : Hid (CellsAt ((w.alloc (.cells #[.slice a F.length cap] 24)).alloc (.cells #[.int .i64 2, .int .i64 p, .int .i64 0] 32)) (w.heap.size + 1) 32 #[.int .i64 2, .int .i64 p, .int .i64 0]) := by
      have := CellsAt.new (w.alloc (.cells #[.slice a F.length cap] 24)) 32 #[.int .i64 2, .int .i64 p, .int .i64 0]
      rw [World.size_alloc] at this
      exact this
    have HNW : Hid (∀ W, Calls Try.prog 15 #[.int .i64 1] W fun e w' => (∃ r, e = .returned (.agg #[r]) ∧ w'.ownsRow W.heap.size 9 1 r 1 ((List.replicate 1 (ffB 128)).flatMap strC)) ∧ Below W.heap.size W w') := fun W => rNew_any 1 (by decide) W
    have HFB : Hid ((ffB 128).data.toList = List.replicate 128 255 ∧ (ffB 128).size = 128) := ⟨by unfold ffB; rfl, ffB_size 128⟩
    generalize ffB 128 = fb at *
    go_enter Try.func35, Try.ntmps35
    go_wp2_with fail
    refine wp_region_noPanic ?_
    refine wp_region_L (S := fun w' => CellsAt w' (w.heap.size + 1) 32 #[.int .i64 2, .int .i64 p, .int .i64 0]) (x := 8) (by kernel_rfl) ?_
    have HD5 : Hid (CellsAt ((w.alloc (.cells #[.slice a F.length cap] 24)).alloc (.cells #[.int .i64 2, .int .i64 p, .int .i64 0] 32)).drew (w.heap.size + 1) 32 #[.int .i64 2, .int .i64 p, .int .i64 0]) := HD1.out
    have HB5 : Hid (Below w.heap.size w ((w.alloc (.cells #[.slice a F.length cap] 24)).alloc (.cells #[.int .i64 2, .int .i64 p, .int .i64 0] 32)).drew) := HB1.out.drew
    clear HD1 HB1
    generalize ((w.alloc (.cells #[.slice a F.length cap] 24)).alloc (.cells #[.int .i64 2, .int .i64 p, .int .i64 0] 32)).drew = w5 at *
    have hS : CellsAt w5 (w.heap.size + 1) 32 #[.int .i64 2, .int .i64 p, .int .i64 0] := HD5.out
    refine wpL_take 0 10 (.pointer (some ⟨w.heap.size + 1, 1, none⟩)) rfl (by kernel_rfl) (fun _ _ _ h => h) hS rfl rfl (fun w' hSw => by have q0 := CellsAt.cell hSw 0; have q1 := CellsAt.cell hSw 1; have q2 := CellsAt.cell hSw 2; simp at q0 q1 q2; have ql := CellsAt.lt hSw; clear hSw; go_simp) ?_
    simp only [List.setIfInBounds_toArray, List.set_cons_zero, List.set_cons_succ]
    refine wpL_take 1 11 (.int .i64 (p : Int)) rfl (by kernel_rfl) (fun _ _ _ h => h) hS rfl rfl (fun w' hSw => by have q0 := CellsAt.cell hSw 0; have q1 := CellsAt.cell hSw 1; have q2 := CellsAt.cell hSw 2; simp at q0 q1 q2; have ql := CellsAt.lt hSw; clear hSw; go_simp) ?_
    simp only [List.setIfInBounds_toArray, List.set_cons_zero, List.set_cons_succ]
    refine wpL_step (i := 2) rfl (by kernel_rfl) (fun K hK => ?_)
    go_simp
    refine (HNW.out _).mono ?_
    rintro e w6 ⟨⟨rr, rfl, ho⟩, b6⟩
    have hS6 : CellsAt w6 (w.heap.size + 1) 32 #[.int .i64 2, .int .i64 p, .int .i64 0] := CellsAt.below hS b6 (CellsAt.lt hS)
    have HB6 : Hid (Below w.heap.size w w6) := HB5.out.trans (b6.mono HB5.out.size)
    go_simp
    refine hK.out _ _ hS6 (fun _ => ?_)
    clear hK K hS HD5 HB5 b6
    have ho6 : ∃ g c, rr = .slice (some ⟨g, 0, none⟩) 1 c ∧ w6.cell? ⟨g, 0, none⟩ = some (.string fb) := by
      rcases ho.2 with ⟨_, h⟩ | ⟨g, c, cur, rfl, _⟩
      · cases h
      · exact ⟨g, c, rfl, own_cell ho 0 _ (by rfl)⟩
    obtain ⟨g, c, rfl, hg⟩ := ho6
    have hfd : ∀ w : World, (Instr.field 24 (.agg #[.slice (some ⟨g, 0, none⟩) 1 c]) 0).run Try.prog w = .ok (.slice (some ⟨g, 0, none⟩) 1 c) w := fun _ => by kernel_rfl
    refine wpL_take 7 4 (.int .i64 (p : Int)) rfl (by kernel_rfl) (fun _ _ _ h => h) hS6 rfl rfl (fun w' hSw => by clear hSw; go_simp) ?_
    simp only [List.setIfInBounds_toArray, List.set_cons_zero, List.set_cons_succ]
    have HG6 : Hid (w6.cell? ⟨g, 0, none⟩ = some (.string fb)) := hg
    have HSS : Hid (CellsAt w6 (w.heap.size + 1) 32 #[.int .i64 2, .int .i64 p, .int .i64 0]) := hS6
    clear hg hS6 ho
    refine wpL_step (i := 3) rfl (by kernel_rfl) (fun K hK => ?_)
    go_simp
    refine hK.out _ _ HSS.out (fun _ => ?_)
    clear hK K
    refine wpL_step (i := 4) rfl (by kernel_rfl) (fun K hK => ?_)
    go_simp
    refine hK.out _ _ HSS.out (fun _ => ?_)
    clear hK K
    refine wpL_step (i := 5) rfl (by kernel_rfl) (fun K hK => ?_)
    have hg := HG6.out
    go_simp
    refine hK.out _ _ HSS.out (fun _ => ?_)
    clear hK K hg
    obtain ⟨w7, kc, hcv, hC7, b7, hk1, hk2⟩ := convBytes w6 fb (by rw [HFB.out.2]; decide)
    rw [HFB.out.2] at hcv hk1
    rw [HFB.out.1] at hC7
    have HC7 : Hid (CellsB w7 w6.heap.size (List.replicate 128 255)) := hC7
    have HB7 : Hid (Below w.heap.size w w7) := HB6.out.trans (b7.mono HB6.out.size)
    have HS7 : Hid (CellsAt w7 (w.heap.size + 1) 32 #[.int .i64 2, .int .i64 p, .int .i64 0]) := HSS.out.below b7 HSS.out.lt
    have HSZ : Hid (w.heap.size ≤ w6.heap.size) := HB6.out.size
    clear hC7 b7 HSS HG6 HB6 hfd
    refine wpL_step (i := 6) rfl (by kernel_rfl) (fun K hK => ?_)
    go_simp
    refine hK.out _ _ HS7.out (fun _ => ?_)
    clear hK K
    clear hcv
    refine wpL_last (x := 8) rfl (by kernel_rfl) (by kernel_rfl) (fun K hK => ?_)
    go_simp
    refine hK.out _ _ ?_
    refine NoPanic.normal ?_
    clear hK K
    go_wp2
    go_ret2
    rw [HD.out, HK.out]
    exact ⟨⟨_, _, rfl, HC7.out, List.length_replicate, HSZ.out, hk1, hk2⟩, HB7.out⟩

end Go.Proofs.Ytnomapbiklfciaf
