/- What must be in any case, of modules. -/
import Derived.Test.YtaklbnabgcglhaaParC
import Derived.Test.YtaklbnabgcglhaaLibA
namespace Go.Proofs.Ytaklbnabgcglhaa
open Go.RowKit Go.PlainAid Go.Lib

theorem enc_lib : encR libM = ⟨#[3, 108, 105, 98, 1, 2, 8, 0, 97, 98, 99, 100, 101, 102, 103, 104, 1, 1, 102, 4, 0, 0, 0]⟩ := by kernel_rfl
theorem fits_of_small {M : Mod} (h : M.small) : M.fits := ⟨by have := h.name; omega, by have := h.text; omega, fun e he => by have := h.exps e he; omega, fun i hi => by have := h.imps i hi; exact ⟨by omega, by omega⟩⟩

/-- What is encoded is told as it was. -/
theorem told_enc (M : Mod) (h : chkMod M = 0) : told (encS M) (rdMod false (encS M) (0, false)) = (M, 0) := by
  rw [rdMod_of false (encS M) M h (lie_self _)]
  unfold told
  rw [if_pos (by
    have : (encS M).size = (encL M).length := toBa_size _
    dsimp only
    rw [this]; simp), if_pos h]

set_option maxRecDepth 100000 in
set_option maxHeartbeats 3200000 in
theorem moduleBegun_any (w : World) : Calls Try.prog 22 #[] w fun e w' => e = .returned (.bool true) ∧ Below w.heap.size w w' := by
  have HE : Hid (∀ v W, IsMod W.heap.size W v libM → Calls Try.prog 17 #[v] W fun e w' => e = .returned (.tuple #[.string ⟨#[3, 108, 105, 98, 1, 2, 8, 0, 97, 98, 99, 100, 101, 102, 103, 104, 1, 1, 102, 4, 0, 0, 0]⟩, .int .i64 0]) ∧ Below W.heap.size W w') := by
    intro v W hv
    have := encode_any libM v W hv (fits_of_small (small_of_chk chk_lib))
    rwa [enc_lib, chk_lib] at this
  have HD : Hid (∀ W, Calls Try.prog 18 #[.string ⟨#[3, 108, 105, 98, 1, 2, 8, 0, 97, 98, 99, 100, 101, 102, 103, 104, 1, 1, 102, 4, 0, 0, 0]⟩] W fun e w' => ∃ v, e = .returned (.tuple #[v, .int .i64 0]) ∧ OwnsMod W.heap.size w' v libM ∧ Below W.heap.size W w') := by
    intro W
    have := decode_any ⟨#[3, 108, 105, 98, 1, 2, 8, 0, 97, 98, 99, 100, 101, 102, 103, 104, 1, 1, 102, 4, 0, 0, 0]⟩ W (by decide)
    have e : (⟨#[3, 108, 105, 98, 1, 2, 8, 0, 97, 98, 99, 100, 101, 102, 103, 104, 1, 1, 102, 4, 0, 0, 0]⟩ : ByteArray) = encS libM := by rw [← enc_lib, encR, if_pos chk_lib]
    rw [e, told_enc libM chk_lib] at this
    rw [e]
    exact this
  go_enter Try.func22, Try.ntmps22
  go_wp2_with fail
  refine (lib_any _).mono ?_
  rintro e w1 ⟨pe, ke, rfl, hI, b1⟩
  have HI1 : Hid (IsMod w1.heap.size w1 (.agg #[.string ⟨#[108, 105, 98]⟩, .int .i64 1, .int .i64 2, .string ⟨#[97, 98, 99, 100, 101, 102, 103, 104]⟩, .slice pe 1 ke, .slice none 0 0, .slice none 0 0]) libM) := hI
  clear hI
  go_wp2_with fail
  refine (HE.out _ _ HI1.out).mono ?_
  rintro e w2 ⟨rfl, b2⟩
  go_wp2_with fail
  refine (HD.out _).mono ?_
  rintro e w3 ⟨v, rfl, hO, b3⟩
  have hf : ∃ qe je qi ji qp jp, v = .agg #[.string ⟨#[108, 105, 98]⟩, .int .i64 1, .int .i64 2, .string ⟨#[97, 98, 99, 100, 101, 102, 103, 104]⟩, .slice qe 1 je, .slice qi 0 ji, .slice qp 0 jp] := hO.form
  obtain ⟨qe, je, qi, ji, qp, jp, rfl⟩ := hf
  have HO : Hid (OwnsMod w2.heap.size (w3.alloc (.cells #[.string ⟨#[108, 105, 98]⟩, .int .i64 1, .int .i64 2, .string ⟨#[97, 98, 99, 100, 101, 102, 103, 104]⟩, .slice qe 1 je, .slice qi 0 ji, .slice qp 0 jp] 39)) (.agg #[.string ⟨#[108, 105, 98]⟩, .int .i64 1, .int .i64 2, .string ⟨#[97, 98, 99, 100, 101, 102, 103, 104]⟩, .slice qe 1 je, .slice qi 0 ji, .slice qp 0 jp]) libM) := hO.below ((Below.refl _ _).alloc (Nat.le_refl _) _)
  have HC : Hid (CellsAt (w3.alloc (.cells #[.string ⟨#[108, 105, 98]⟩, .int .i64 1, .int .i64 2, .string ⟨#[97, 98, 99, 100, 101, 102, 103, 104]⟩, .slice qe 1 je, .slice qi 0 ji, .slice qp 0 jp] 39)) w3.heap.size 39 #[.string ⟨#[108, 105, 98]⟩, .int .i64 1, .int .i64 2, .string ⟨#[97, 98, 99, 100, 101, 102, 103, 104]⟩, .slice qe 1 je, .slice qi 0 ji, .slice qp 0 jp]) := CellsAt.new _ _ _
  have HB : Hid (Below w.heap.size w (w3.alloc (.cells #[.string ⟨#[108, 105, 98]⟩, .int .i64 1, .int .i64 2, .string ⟨#[97, 98, 99, 100, 101, 102, 103, 104]⟩, .slice qe 1 je, .slice qi 0 ji, .slice qp 0 jp] 39))) := ((b1.trans (b2.mono b1.size)).trans (b3.mono (Nat.le_trans b1.size b2.size))).alloc (Nat.le_trans b1.size (Nat.le_trans b2.size b3.size)) _
  have HZ : Hid (w3.heap.size < (w3.alloc (.cells #[.string ⟨#[108, 105, 98]⟩, .int .i64 1, .int .i64 2, .string ⟨#[97, 98, 99, 100, 101, 102, 103, 104]⟩, .slice qe 1 je, .slice qi 0 ji, .slice qp 0 jp] 39)).heap.size) := by show w3.heap.size < _; simp
  clear hO b1 b2 b3 HI1
  go_wp2_with fail
  have hO := HO.out
  have hC := HC.out
  have hB := HB.out
  have hZ := HZ.out
  clear HO HC HB HZ HE HD
  generalize w3.alloc (.cells #[.string ⟨#[108, 105, 98]⟩, .int .i64 1, .int .i64 2, .string ⟨#[97, 98, 99, 100, 101, 102, 103, 104]⟩, .slice qe 1 je, .slice qi 0 ji, .slice qp 0 jp] 39) = w4 at hO hC hB hZ ⊢
  obtain ⟨c0, c1, c2, c3, c4, c5, c6⟩ := box7 hC
  have HO4 : Hid (OwnsMod w2.heap.size w4 (.agg #[.string ⟨#[108, 105, 98]⟩, .int .i64 1, .int .i64 2, .string ⟨#[97, 98, 99, 100, 101, 102, 103, 104]⟩, .slice qe 1 je, .slice qi 0 ji, .slice qp 0 jp]) libM) := hO
  have HC4 : Hid (CellsAt w4 w3.heap.size 39 #[.string ⟨#[108, 105, 98]⟩, .int .i64 1, .int .i64 2, .string ⟨#[97, 98, 99, 100, 101, 102, 103, 104]⟩, .slice qe 1 je, .slice qi 0 ji, .slice qp 0 jp]) := hC
  have HK : Hid (∀ v W, IsMod W.heap.size W v appM → Calls Try.prog 23 #[v] W fun e w' => e = .returned (.int .i64 0) ∧ Below W.heap.size W w') := by
    intro v W hv
    have := check_any appM v W hv (fits_of_small (small_of_chk chk_app))
    rwa [chk_app] at this
  clear hO hC
  go_region_held3 (fun w' => w'.cell? ⟨w3.heap.size, 0, none⟩ = some (.string ⟨#[108, 105, 98]⟩) ∧ w'.cell? ⟨w3.heap.size, 1, none⟩ = some (.int .i64 1) ∧ w'.cell? ⟨w3.heap.size, 2, none⟩ = some (.int .i64 2) ∧ w'.cell? ⟨w3.heap.size, 3, none⟩ = some (.string ⟨#[97, 98, 99, 100, 101, 102, 103, 104]⟩) ∧ w'.cell? ⟨w3.heap.size, 4, none⟩ = some (.slice qe 1 je) ∧ w'.cell? ⟨w3.heap.size, 5, none⟩ = some (.slice qi 0 ji) ∧ w'.cell? ⟨w3.heap.size, 6, none⟩ = some (.slice qp 0 jp))
    (first | go_keep)
    (first
      | (go_at_call 49; refine (app_any _).mono ?_; rintro e w5 ⟨va, rfl, hI5, b5⟩
         have B5 : Below w4.heap.size w4 w5 := by first | exact b5 | exact (Below.refl _ _).drew.trans b5
         have C5 := CellsAt.below HC4.out B5 hZ
         obtain ⟨d0, d1, d2, d3, d4, d5, d6⟩ := box7 C5)
      | (go_at_call 23; refine (HK.out _ _ hI5).mono ?_; rintro e w6 ⟨rfl, b6⟩
         have B6 := B5.trans (b6.mono B5.size)
         have C6 := CellsAt.below HC4.out B6 hZ
         obtain ⟨e0, e1, e2, e3, e4, e5, e6⟩ := box7 C6)
      | (go_at_call 48; refine (lib_any _).mono ?_; rintro e w7 ⟨le, me, rfl, hI7, b7⟩
         have B7 := B6.trans (b7.mono B6.size)
         have C7 := CellsAt.below HC4.out B7 hZ
         obtain ⟨f0, f1, f2, f3, f4, f5, f6⟩ := box7 C7)
      | (go_at_call 24; refine (sameModule_yes libM _ _ _ (HO4.out.below B7).isMod hI7).mono ?_; rintro e w8 ⟨rfl, b8⟩
         have B8 := B7.trans (b8.mono B7.size)
         have C8 := CellsAt.below HC4.out B8 hZ
         obtain ⟨g0, g1, g2, g3, g4, g5, g6⟩ := box7 C8))
  go_wp2
  go_ret
  exact ⟨rfl, hB.trans (B8.mono hB.size)⟩

end Go.Proofs.Ytaklbnabgcglhaa
