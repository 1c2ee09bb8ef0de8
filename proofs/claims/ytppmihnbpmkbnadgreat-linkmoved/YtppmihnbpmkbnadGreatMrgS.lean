/- Texts that are laid together. -/
import Derived.Test.YtppmihnbpmkbnadGreatMrgQ
import Derived.Test.YtppmihnbpmkbnadGreatMrgR
import Derived.Deep.QuietTactic
import Derived.BigQuiet
import Derived.Test.YtppmihnbpmkbnadGreatMrgB
import Derived.ProofKit
import Derived.OpenShut
import Derived.ShutString
import Derived.ChangeOld
import Derived.SizedLaws
import Derived.Below
import Derived.Carry
import Derived.Deep.Slices
import Derived.Test.YtppmihnbpmkbnadGreatMrgC

/- What must be in any case, of images. -/
namespace Go.Proofs.YtppmihnbpmkbnadGreat
open Go.RowKit Go.PlainAid

set_option maxRecDepth 100000

theorem lnB_i2 : (imageOf kernK pairL ⟨#[97, 112, 112]⟩).2 = 0 := by kernel_rfl
theorem lnB_is : (imageOf kernK pairL ⟨#[97, 112, 112]⟩).1.size = 64 := by kernel_rfl
theorem lnB_i9 : (imageOf kernK pairL ⟨#[97, 112, 112]⟩).1.extract 0 9 = ⟨#[5, 17, 0, 0, 223, 247, 255, 46, 255]⟩ := by kernel_rfl
theorem lnB_a2 : (areaOf kernK pairL).2 = 0 := by kernel_rfl
theorem lnB_as : (areaOf kernK pairL).1.size = 1024 := by kernel_rfl
theorem lnB_a64 : (areaOf kernK pairL).1.extract 64 128 = (imageOf kernK pairL ⟨#[97, 112, 112]⟩).1 := by kernel_rfl
theorem lnB_a256 : (areaOf kernK pairL).1.extract 256 265 = ⟨#[97, 98, 99, 100, 101, 102, 103, 104, 255]⟩ := by kernel_rfl

set_option maxHeartbeats 4000000 in
theorem linkBegun_any (w : World) : Calls Tryz.prog 15 #[] w fun e w' => e = .returned (.bool true) ∧ Below w.heap.size w w' := by
  obtain ⟨S, E, he⟩ : ∃ S E, imageOf kernK pairL ⟨#[97, 112, 112]⟩ = (S, E) := ⟨_, _, rfl⟩
  obtain ⟨T, F, hf⟩ : ∃ T F, areaOf kernK pairL = (T, F) := ⟨_, _, rfl⟩
  have i2 := lnB_i2
  have is := lnB_is
  have i9 := lnB_i9
  have a2 := lnB_a2
  have asz := lnB_as
  have a64 := lnB_a64
  have a256 := lnB_a256
  rw [he] at i2 is i9 a64
  rw [hf] at a2 asz a64 a256
  dsimp only at i2 is i9 a2 asz a64 a256
  subst i2 a2
  have HI : Hid (∀ vk l v W, l.map PV.plc = pairL → IsKer W.heap.size W vk kernK → IsPlcs W.heap.size W v l → Calls Tryz.prog 9 #[vk, v, .string ⟨#[97, 112, 112]⟩] W fun e w' => e = .returned (.tuple #[.string S, .int .i64 0]) ∧ Below W.heap.size W w') := fun vk l v W hl hK hP => by
    have := linkImage_any kernK vk l v ⟨#[97, 112, 112]⟩ W hK kern_fits hP (pair_fits hl)
    rw [hl, he] at this
    exact this
  have HA : Hid (∀ vk l v W, l.map PV.plc = pairL → IsKer W.heap.size W vk kernK → IsPlcs W.heap.size W v l → Calls Tryz.prog 10 #[vk, v] W fun e w' => e = .returned (.tuple #[.string T, .int .i64 0]) ∧ Below W.heap.size W w') := fun vk l v W hl hK hP => by
    have := linkArea_any kernK vk l v W hK kern_fits hP (pair_fits hl)
    rw [hl, hf] at this
    exact this
  clear he hf
  go_enter Tryz.func15, Tryz.ntmps15
  go_wp2_with fail
  refine (kernelFn_any _).mono ?_
  rintro e w1 ⟨vk, rfl, hK, b1⟩
  go_wp2_with fail
  refine (pair_any _).mono ?_
  rintro e w2 ⟨v, l, rfl, hl, hP, b2⟩
  have B2 := b1.trans (b2.mono b1.size)
  go_wp2_with fail
  refine (HI.out vk l v _ hl ((hK.below b2).more b2.size) hP).mono ?_
  rintro e w3 ⟨rfl, b3⟩
  have B3 := B2.trans (b3.mono B2.size)
  clear hK b1 hl hP b2 b3 B2 HI
  go_wp2_with fail
  refine (kernelFn_any _).mono ?_
  rintro e w4 ⟨vk2, rfl, hK, b1⟩
  go_wp2_with fail
  refine (pair_any _).mono ?_
  rintro e w5 ⟨v2, l2, rfl, hl, hP, b2⟩
  have B5 := B3.trans ((b1.trans (b2.mono b1.size)).mono B3.size)
  go_wp2_with fail
  refine (HA.out vk2 l2 v2 _ hl ((hK.below b2).more b2.size) hP).mono ?_
  rintro e w6 ⟨rfl, b3⟩
  have B6 := B5.trans (b3.mono B5.size)
  clear hK b1 hl hP b2 b3 B5 HA B3
  go_wp2
  go_ret
  exact ⟨rfl, B6⟩

end Go.Proofs.YtppmihnbpmkbnadGreat

/- The walk of the law LinkMoved: it returns true. -/
namespace Go.Proofs.YtppmihnbpmkbnadGreat.linkMoved
open Go.RowKit Go.PlainAid

set_option maxRecDepth 100000

theorem not_clear_take {ps : List Pat} {q n : Nat} {z : Pat} {t u : Bool} (hz : ps[q]? = some z) (ht : t = true ↔ ∃ y ∈ ps.take q, ¬ clearOf y n) (hu : u = true ↔ t = true ∨ ¬ clearOf z n) : u = true ↔ ∃ y ∈ ps.take (q + 1), ¬ clearOf y n := by
  have h : ps.take (q + 1) = ps.take q ++ [z] := by rw [List.take_add_one, hz]; rfl
  rw [hu, ht, h]
  constructor
  · rintro (⟨y, hy, hc⟩ | hc)
    · exact ⟨y, List.mem_append_left _ hy, hc⟩
    · exact ⟨z, by simp, hc⟩
  · rintro ⟨y, hy, hc⟩
    rcases List.mem_append.1 hy with hy | hy
    · exact .inl ⟨y, hy, hc⟩
    · rw [List.mem_singleton.1 hy] at hc
      exact .inr hc

set_option maxHeartbeats 16000000 in
theorem walk (K : Ker) (vk : Value) (l : List PV) (v : Value) (w : World) (hK : IsKer w.heap.size w vk K) (hf : K.fits) (hrow : IsPlcs w.heap.size w v l) (hfit : ∀ x ∈ l, x.mod.fits) :
    Calls Tryz.prog 4 #[vk, v] w fun e w' => e = .returned (.bool true) ∧ Below w.heap.size w w' := by
  have HA : Hid (∀ W, Below w.heap.size w W → Calls Tryz.prog 10 #[vk, v] W fun e w' => e = .returned (.tuple #[.string (areaOf K (l.map PV.plc)).1, .int .i64 (areaOf K (l.map PV.plc)).2]) ∧ Below W.heap.size W w') := fun W hb => linkArea_any K vk l v W ((hK.below hb).more hb.size) hf ((hrow.below hb).more hb.size) hfit
  have HI : Hid (∀ name W, Below w.heap.size w W → Calls Tryz.prog 9 #[vk, v, .string name] W fun e w' => e = .returned (.tuple #[.string (imageOf K (l.map PV.plc) name).1, .int .i64 (imageOf K (l.map PV.plc) name).2]) ∧ Below W.heap.size W w') := fun name W hb => linkImage_any K vk l v name W ((hK.below hb).more hb.size) hf ((hrow.below hb).more hb.size) hfit
  have HD : Hid ((areaOf K (l.map PV.plc)).2 = 0 → (areaOf K (l.map PV.plc)).1.size = 1024 ∧ l.length ≤ 8 ∧ (∀ x ∈ l, ImgIn K (l.map PV.plc) (areaOf K (l.map PV.plc)).1 x.plc) ∧ ∀ n, n < 1024 → inImgs (l.map PV.plc) n = false → bt (areaOf K (l.map PV.plc)).1 n = 255) := fun h => by
    obtain ⟨h1, h2, h3, h4⟩ := moved_data h
    exact ⟨h1, by simpa using h2, fun x hx => h3 x.plc (List.mem_map.2 ⟨x, hx, rfl⟩), h4⟩
  have HE : Hid ((areaOf K (l.map PV.plc)).2 ≠ 0 → (areaOf K (l.map PV.plc)).1 = ⟨#[]⟩) := areaOf_bad
  have HIN : Hid (∀ T p, ImgIn K (l.map PV.plc) T p → imageOf K (l.map PV.plc) p.mod.name = imgRes K (l.map PV.plc) p ∧ (imgRes K (l.map PV.plc) p).2 = 0 ∧ (imgRes K (l.map PV.plc) p).1.size = 64 * szM p.mod ∧ p.mod.text.size ≤ 64 * szM p.mod ∧ 0 ≤ p.first ∧ p.first + szM p.mod ≤ 16 ∧ chkMod p.mod = 0 ∧ T.extract (64 * p.first.toNat) (64 * p.first.toNat + 64 * szM p.mod) = (imgRes K (l.map PV.plc) p).1 ∧ (∀ n, n < 64 * szM p.mod → p.mod.text.size ≤ n → bt (imgRes K (l.map PV.plc) p).1 n = 255) ∧ (∀ n, n < p.mod.text.size → (∀ q ∈ p.mod.pats, clearOf q n) → bt (imgRes K (l.map PV.plc) p).1 n = bt p.mod.text n)) := fun _ _ h => h
  obtain ⟨UK, HUG, HUS, HUZ⟩ : ∃ UK : (Nat → Bool) → Array Value, Hid (∀ (u : Nat → Bool) (i : Nat), i < 1024 → (UK u)[i]? = some (.bool (u i))) ∧ Hid (∀ (u : Nat → Bool) (i : Nat), (UK u).setIfInBounds i (.bool true) = UK (fun j => decide (j = i) || u j)) ∧ Hid (Tryz.zeroCells35 = UK (fun _ => false)) := ⟨usedK, fun u _ hi => usedK_get u hi, fun u i => usedK_set u i, zeroK⟩
  have hat := hrow.2
  obtain ⟨vke, rfl, hE⟩ := hK
  obtain ⟨qe, je, rfl, -, -⟩ := hE
  obtain ⟨⟨a, cap, rfl, hmax, hrow⟩, -⟩ := hrow
  clear hf hfit
  generalize areaOf K (l.map PV.plc) = AR at *
  generalize imageOf K (l.map PV.plc) = IM at *
  generalize ImgIn K (l.map PV.plc) = II at *
  generalize imgRes K (l.map PV.plc) = IR at *
  obtain ⟨T, te⟩ := AR
  obtain ⟨ma, mi, ks⟩ := K
  dsimp only at *
  generalize ks.length = lk at *
  have BB : Below w.heap.size w (w.alloc (.cells #[.int .i64 ma, .int .i64 mi, .slice qe lk je] 24)) := (Below.refl _ _).alloc (Nat.le_refl _) _
  have KB : CellsAt (w.alloc (.cells #[.int .i64 ma, .int .i64 mi, .slice qe lk je] 24)) w.heap.size 24 #[.int .i64 ma, .int .i64 mi, .slice qe lk je] := CellsAt.new w 24 #[.int .i64 ma, .int .i64 mi, .slice qe lk je]
  go_enter Tryz.func4, Tryz.ntmps4
  go_wp2_with fail
  refine (HA.out _ BB).mono ?_
  rintro e w1 ⟨rfl, b⟩
  replace KB := CellsAt.below KB b (CellsAt.lt KB)
  replace BB := BB.trans (b.mono BB.size)
  clear b HA
  go_wp2_with fail
  refine (linkBegun_any _).mono ?_
  rintro e w2 ⟨rfl, b⟩
  replace KB := CellsAt.below KB b (CellsAt.lt KB)
  replace BB := BB.trans (b.mono BB.size)
  clear b
  by_cases hte : te = 0
  · obtain ⟨h1, h8, h3, h4⟩ := HD.out hte
    subst hte
    have HX : Hid (∀ x ∈ l, II T x.plc) := h3
    have HT : Hid (∀ n, n < 1024 → inImgs (l.map PV.plc) n = false → bt T n = 255) := h4
    clear HD HE h3 h4
    have hT1 : ((T.size : Int) != 1024) = false := by rw [h1]; rfl
    have BA := BB.alloc BB.size (.cells Tryz.zeroCells35 35)
    have KA := CellsAt.kept KB (World.grownBy_alloc w2 (.cells Tryz.zeroCells35 35) none) (by simp)
    have UA := CellsAt.new w2 35 Tryz.zeroCells35
    have hwU : w.heap.size < w2.heap.size := CellsAt.lt KB
    have HBA : Hid _ := BA
    have HKA : Hid _ := KA
    have HUA : Hid _ := UA
    clear BB KB BA KA UA
    go_wp2_with fail
    have BB := HBA.out
    have KB := HKA.out
    have UB := HUA.out
    clear HBA HKA HUA hT1
    generalize w2.alloc (.cells Tryz.zeroCells35 35) = w3 at BB KB UB ⊢
    generalize w2.heap.size = U at UB hwU ⊢
    rw [HUZ.out] at UB
    go_loopw [8] (fun i wr => ∃ (k : Nat) (u : Nat → Bool), k ≤ l.length ∧ i = .int .i64 k ∧ Hid (∀ n, n < 1024 → u n = inImgs ((l.take k).map PV.plc) n) ∧ CellsAt wr U 35 (UK u) ∧ CellsAt wr w.heap.size 24 #[.int .i64 ma, .int .i64 mi, .slice qe lk je] ∧ Below w.heap.size w wr) (fun i _ => l.length - (intOf i).toNat)
    case atStart => exact ⟨0, fun _ => false, Nat.zero_le _, rfl, (by show ∀ n, n < 1024 → false = inImgs ((l.take 0).map PV.plc) n; intro n _; rfl), UB, KB, BB⟩
    case round =>
      clear BB KB UB
      obtain ⟨k, u, hk, rfl, HU, UB, KB, BB⟩ := hrel
      by_cases hlt : k < l.length
      · obtain ⟨x, hx⟩ : ∃ x, l[k]? = some x := ⟨_, List.getElem?_eq_getElem hlt⟩
        have hxm := List.mem_of_getElem? hx
        rcases hrow with h | ⟨b, off, rfl, hbn, hcells⟩
        · subst h; simp at hlt
        obtain ⟨i1, i2, i3, i4, i5, i6, i7, i8, i9, i10⟩ := HIN.out T x.plc (HX.out x hxm)
        have HIX := HI.out x.mod.name
        change IM x.mod.name = IR x.plc at i1
        rw [i1, i2] at HIX
        have hps := pats_pos i7
        have hps12 := (chkMod_exps i7).2.2.2.2.1
        have hX256 := (chkMod_exps i7).2.1
        have HTK : Hid (∀ n, inImgs ((l.take (k + 1)).map PV.plc) n = (inImgs ((l.take k).map PV.plc) n || inImg x.plc n)) := inImgs_take hx
        have HIIM : Hid (∀ n, inImg x.plc n = (decide (64 * x.first.toNat ≤ n) && decide (n < 64 * x.first.toNat + 64 * szM x.mod))) := fun _ => rfl
        have c0 := (BB.cell (p := ⟨b, off + k * 8 + 0, none⟩) hbn).trans (hcells k _ hx 0 (by omega))
        have c1 := (BB.cell (p := ⟨b, off + k * 8 + 1, none⟩) hbn).trans (hcells k _ hx 1 (by omega))
        have c2 := (BB.cell (p := ⟨b, off + k * 8 + 2, none⟩) hbn).trans (hcells k _ hx 2 (by omega))
        have c3 := (BB.cell (p := ⟨b, off + k * 8 + 3, none⟩) hbn).trans (hcells k _ hx 3 (by omega))
        have c4 := (BB.cell (p := ⟨b, off + k * 8 + 4, none⟩) hbn).trans (hcells k _ hx 4 (by omega))
        have c5 := (BB.cell (p := ⟨b, off + k * 8 + 5, none⟩) hbn).trans (hcells k _ hx 5 (by omega))
        have c6 := (BB.cell (p := ⟨b, off + k * 8 + 6, none⟩) hbn).trans (hcells k _ hx 6 (by omega))
        have c7w := hcells k _ hx 7 (by omega)
        obtain ⟨⟨pe, ke, e4, -⟩, ⟨pi, ki, e5, -⟩, ⟨pp, kp, e6, -, hP⟩⟩ := hat x hxm
        generalize IR x.plc = R at *
        generalize inImg x.plc = IG at *
        obtain ⟨S, se⟩ := R
        obtain ⟨⟨N, xa, xi, X, es, is, ps⟩, ve, vi, vp, fi⟩ := x
        dsimp only [PV.plc] at *
        subst e4 e5 e6 i2
        dsimp only [PV.cell] at c0 c1 c2 c3 c4 c5 c6 c7w
        rw [Nat.add_zero] at c0
        generalize szM ⟨N, xa, xi, X, es, is, ps⟩ = zz at *
        obtain ⟨f, rfl⟩ : ∃ f : Nat, fi = (f : Int) := ⟨fi.toNat, by omega⟩
        rw [Int.toNat_natCast] at i8
        have HIIM' : Hid (∀ n, IG n = (decide (64 * f ≤ n) && decide (n < 64 * f + 64 * zz))) := fun n => by
          have := HIIM.out n
          rw [Int.toNat_natCast] at this
          exact this
        generalize es.length = le at *
        generalize is.length = li at *
        obtain ⟨A, hA⟩ : ∃ A, A = 64 * f := ⟨_, rfl⟩
        rw [← hA] at i8 HIIM'
        rw [← i3] at i8
        have HI8 : Hid (T.extract A (A + S.size) = S) := i8
        have HI9 : Hid (∀ n, n < S.size → X.size ≤ n → bt S n = 255) := fun n hn => i9 n (by omega)
        have HI10 : Hid (∀ n, n < X.size → (∀ q ∈ ps, clearOf q n) → bt S n = bt X n) := i10
        have HPS : Hid (∀ p ∈ ps, 0 ≤ p.pos ∧ p.pos + width p.kind ≤ X.size) := hps
        have HIXX : Hid (∀ W, Below w.heap.size w W → Calls Tryz.prog 9 #[.agg #[.int .i64 ma, .int .i64 mi, .slice qe lk je], .slice (some ⟨b, off, none⟩) l.length cap, .string N] W fun e w' => e = .returned (.tuple #[.string S, .int .i64 0]) ∧ Below W.heap.size W w') := HIX
        have hkl : (k : Int) < (l.length : Int) := by omega
        have hk0 : ¬ (k : Int) < 0 := by omega
        have hbr : b < wr.heap.size := Nat.lt_of_lt_of_le hbn BB.size
        clear hcells hx hxm HIX i1 i8 i9 i10 hps HIIM HI HX HIN hat i7
        have BM := BB.alloc BB.size (.cells #[.string N, .int .i64 xa, .int .i64 xi, .string X, .slice pe le ke, .slice pi li ki, .slice pp ps.length kp] 39)
        have KM := CellsAt.kept KB (World.grownBy_alloc wr (.cells #[.string N, .int .i64 xa, .int .i64 xi, .string X, .slice pe le ke, .slice pi li ki, .slice pp ps.length kp] 39) none) (by simp)
        have UM := CellsAt.kept UB (World.grownBy_alloc wr (.cells #[.string N, .int .i64 xa, .int .i64 xi, .string X, .slice pe le ke, .slice pi li ki, .slice pp ps.length kp] 39) none) (by simp)
        have MM := CellsAt.new wr 39 #[.string N, .int .i64 xa, .int .i64 xi, .string X, .slice pe le ke, .slice pi li ki, .slice pp ps.length kp]
        have hUM : U < wr.heap.size := CellsAt.lt UB
        have k0 := CellsAt.cell KM 0
        have k1 := CellsAt.cell KM 1
        have k2 := CellsAt.cell KM 2
        have hk3 := CellsAt.lt KM
        simp at k0 k1 k2
        have HBM : Hid _ := BM
        have HKM : Hid _ := KM
        have HUM : Hid _ := UM
        have HMM : Hid _ := MM
        clear BB KB UB BM KM UM MM
        go_wp2_with fail
        refine (HIXX.out _ HBM.out).mono ?_
        have BB := HBM.out
        have KB := HKM.out
        have UB := HUM.out
        have MB := HMM.out
        clear HBM HKM HUM HMM HIXX c0 c1 c2 c3 c4 c5 c6 k0 k1 k2 hk3 hbr
        generalize wr.alloc (.cells #[.string N, .int .i64 xa, .int .i64 xi, .string X, .slice pe le ke, .slice pi li ki, .slice pp ps.length kp] 39) = w4 at BB KB UB MB ⊢
        generalize wr.heap.size = M at MB hUM ⊢
        rintro e w5 ⟨rfl, b5⟩
        replace KB := CellsAt.below KB b5 (CellsAt.lt KB)
        replace UB := CellsAt.below UB b5 (CellsAt.lt UB)
        replace MB := CellsAt.below MB b5 (CellsAt.lt MB)
        replace BB := BB.trans (b5.mono BB.size)
        clear b5
        have c7 := (BB.cell (p := ⟨b, off + k * 8 + 7, none⟩) hbn).trans c7w
        have hbr : b < w5.heap.size := Nat.lt_of_lt_of_le hbn BB.size
        have m3 := CellsAt.cell MB 3
        have hml := CellsAt.lt MB
        simp at m3
        obtain ⟨E, hEE⟩ : ∃ E, E = A + S.size := ⟨_, rfl⟩
        have q1 : IntKind.i64.wrap ((f : Int) * 64) = (A : Int) := by rw [i64_is]; unfold wrap64; omega
        have q2 : IntKind.i64.wrap ((A : Int) + (S.size : Int)) = (E : Int) := by rw [i64_is]; unfold wrap64; omega
        have q3 : ¬ ((T.size : Int) < (E : Int)) := by omega
        have q4 : ¬ ((A : Int) < 0) := by omega
        have q5 : ¬ ((S.size : Int) < (X.size : Int)) := by omega
        have q4' : decide ((A : Int) < 0) = false := decide_eq_false q4
        have q3' : decide ((1024 : Int) < (E : Int)) = false := decide_eq_false (by omega)
        have q5' : decide (S.size < X.size) = false := decide_eq_false (by omega)
        have q5'' : decide ((S.size : Int) < (X.size : Int)) = false := decide_eq_false q5
        have q6 : T.extract A E = S := by rw [hEE]; exact HI8.out
        have q7 : A ≤ E := by omega
        have q8 : E ≤ T.size := by omega
        have HB5 : Hid _ := BB
        have HK5 : Hid _ := KB
        have HU5 : Hid _ := UB
        have HM5 : Hid _ := MB
        have hE1 : Hid (E = A + S.size) := hEE
        have hA1 : Hid (A = 64 * f ∧ S.size = 64 * zz ∧ A + S.size ≤ 1024 ∧ X.size ≤ S.size) := (⟨hA, i3, by omega, by omega⟩ : A = 64 * f ∧ S.size = 64 * zz ∧ A + S.size ≤ 1024 ∧ X.size ≤ S.size)
        clear BB KB UB MB hEE hA i3 i4 i5 i6
        go_wp2_with fail
        clear c7 m3 hml q1 q2 q3 q4 q5 q3' q4' q5' q5'' q6 q7 q8 hbr
        have BB := HB5.out
        have KB := HK5.out
        have UB := HU5.out
        have MB := HM5.out
        clear HB5 HK5 HU5 HM5
        go_loopw [13] (fun i wq => ∃ (n : Nat) (u' : Nat → Bool), n ≤ S.size ∧ i = .int .i64 n ∧ Hid (∀ q, q < 1024 → u' q = (inImgs ((l.take k).map PV.plc) q || (decide (A ≤ q) && decide (q < A + n)))) ∧ CellsAt wq U 35 (UK u') ∧ CellsAt wq M 39 #[.string N, .int .i64 xa, .int .i64 xi, .string X, .slice pe le ke, .slice pi li ki, .slice pp ps.length kp] ∧ CellsAt wq w.heap.size 24 #[.int .i64 ma, .int .i64 mi, .slice qe lk je] ∧ Below w.heap.size w wq) (fun i _ => S.size - (intOf i).toNat)
        case atStart =>
          refine ⟨0, u, Nat.zero_le _, rfl, ?_, UB, MB, KB, BB⟩
          show ∀ q, q < 1024 → u q = (inImgs ((l.take k).map PV.plc) q || (decide (A ≤ q) && decide (q < A + 0)))
          intro q hq
          rw [HU.out q hq]
          have : (decide (A ≤ q) && decide (q < A + 0)) = false := by simp
          rw [this, Bool.or_false]
        case round =>
          clear BB KB UB MB HU
          obtain ⟨n, u', hn, rfl, HU, UB, MB, KB, BB⟩ := hrel
          by_cases hnl : n < S.size
          · obtain ⟨G, hG⟩ : ∃ G, G = A + n := ⟨_, rfl⟩
            have hG1 : G < 1024 := by have := hA1.out; omega
            have HU2 : Hid (∀ q, q < 1024 → (decide (q = G) || u' q) = (inImgs ((l.take k).map PV.plc) q || (decide (A ≤ q) && decide (q < A + (n + 1))))) := by
              intro q hq
              rw [HU.out q hq]
              by_cases h : q = G
              · rw [decide_eq_true h, decide_eq_true (show A ≤ q by omega), decide_eq_true (show q < A + (n + 1) by omega)]
                simp
              · rw [decide_eq_false h, Bool.false_or]
                by_cases h2 : q < A + n
                · rw [decide_eq_true h2, decide_eq_true (show q < A + (n + 1) by omega)]
                · rw [decide_eq_false h2, show decide (q < A + (n + 1)) = false from decide_eq_false (by omega)]
            have g1 : IntKind.i64.wrap ((A : Int) + (n : Int)) = (G : Int) := by have := hA1.out; rw [i64_is]; unfold wrap64; omega
            have g2 : (G : Int) < 1024 := by omega
            have g3 : ¬ ((G : Int) < 0) := by omega
            have t1 := (CellsAt.cell UB G).trans (HUG.out u' G hG1)
            have t2 := CellsAt.frozen UB G
            have hul := CellsAt.lt UB
            have hUM' : M ≠ U := by omega
            have gr := grown_set wr U G (.bool true)
            have UB' := CellsAt.set G (.bool true) UB
            rw [HUS.out] at UB'
            have MB' := CellsAt.kept MB gr (fun e => hUM' (Option.some.inj e))
            have KB' := CellsAt.kept KB gr (fun e => by have := Option.some.inj e; omega)
            have BB' := BB.grown gr BB.size (fun j e => by obtain rfl := Option.some.inj e; omega)
            have m3 := CellsAt.cell MB' 3
            have m6 := CellsAt.cell MB' 6
            have hml := CellsAt.lt MB'
            simp at m3 m6
            have HUB : Hid _ := UB'
            have HMB : Hid _ := MB'
            have HKB : Hid _ := KB'
            have HBB : Hid _ := BB'
            have hnl2 : (n : Int) < (S.size : Int) := by omega
            have hn0 : ¬ ((n : Int) < 0) := by omega
            have hn1 : Hid (n + 1 ≤ S.size) := hnl
            have hnb : Hid (n < 1024) := (by have := hA1.out; omega : n < 1024)
            clear UB MB KB BB UB' MB' KB' BB' gr HU hG
            by_cases hnx : X.size ≤ n
            · have hbS := get_bt S
              have hb := HI9.out n hnl hnx
              have hb' : (bt S n != 255) = false := by rw [hb]; rfl
              have hnx' : (X.size : Int) ≤ (n : Int) := by omega
              clear HI9 HI10 HT HI8 HPS HTK HIIM' hP hA1 hE1 hb hnx
              have z1 := hn1.out
              have z2 := hnb.out
              go_wp2
              exact ⟨⟨n + 1, fun j => decide (j = G) || u' j, z1, by go_num, HU2, HUB.out, HMB.out, HKB.out, HBB.out⟩, by simp [intOf]; omega⟩
            · have hnx' : ¬ ((X.size : Int) ≤ (n : Int)) := by omega
              have hnx2 : n < X.size := by omega
              clear hnx
              go_wp2_with fail
              have UB := HUB.out
              have MB := HMB.out
              have KB := HKB.out
              have BB := HBB.out
              clear HUB HMB HKB HBB t1 t2 hul m3 m6 hml g1 g2 g3
              generalize wr.setCell ⟨U, G, none⟩ (.bool true) = wG at UB MB KB BB ⊢
              go_loopw [14, 15] (fun pb pi wz => ∃ (q : Nat) (t : Bool), q ≤ ps.length ∧ pi = .int .i64 q ∧ pb = .bool t ∧ Hid (t = true ↔ ∃ y ∈ ps.take q, ¬ clearOf y n) ∧ Below wG.heap.size wG wz) (fun _ pi _ => ps.length - (intOf pi).toNat)
              case atStart => exact ⟨0, false, Nat.zero_le _, rfl, rfl, (by show (false = true) ↔ ∃ y ∈ ps.take 0, ¬ clearOf y n; simp), Below.refl _ _⟩
              case round =>
                obtain ⟨q, t, hq, rfl, rfl, HT3, BZ⟩ := hrel
                have MZ := CellsAt.below MB BZ (CellsAt.lt MB)
                have m3 := CellsAt.cell MZ 3
                have m6 := CellsAt.cell MZ 6
                have hml := CellsAt.lt MZ
                simp at m3 m6
                clear MZ
                by_cases hql : q < ps.length
                · obtain ⟨z, hz⟩ : ∃ z, ps[q]? = some z := ⟨_, List.getElem?_eq_getElem hql⟩
                  have BWZ := BB.trans (BZ.mono BB.size)
                  rcases hP with h | ⟨bp, offp, rfl, hbp, hcp⟩
                  · subst h; simp at hql
                  have d0 := (BWZ.cell (p := ⟨bp, offp + q * 4 + 0, none⟩) hbp).trans (hcp q _ hz 0 (by omega))
                  have d1 := (BWZ.cell (p := ⟨bp, offp + q * 4 + 1, none⟩) hbp).trans (hcp q _ hz 1 (by omega))
                  obtain ⟨zp0, zp1⟩ := HPS.out z (List.mem_of_getElem? hz)
                  have hw4 := width_le z.kind
                  have hw0 := width_nonneg z.kind
                  have HTK3 : Hid (∀ v : Bool, (v = true ↔ t = true ∨ ¬ clearOf z n) → (v = true ↔ ∃ y ∈ ps.take (q + 1), ¬ clearOf y n)) := fun v hv => not_clear_take hz HT3.out hv
                  have HCL : Hid (clearOf z n ↔ (n : Int) < z.pos ∨ z.pos + width z.kind ≤ n) := Iff.rfl
                  have HW : Hid (∀ W, Calls Tryz.prog 16 #[.int .i64 z.kind] W fun e w' => e = .returned (.int .i64 (width z.kind)) ∧ w' = W) := fun W => widthOf_any z.kind W
                  generalize clearOf z n = CZ at *
                  obtain ⟨zk, zpos, zs, za⟩ := z
                  dsimp only [Pat.cell] at *
                  generalize width zk = wd at *
                  rw [Nat.add_zero] at d0
                  have hql2 : (q : Int) < (ps.length : Int) := by omega
                  have hq0 : ¬ ((q : Int) < 0) := by omega
                  have hbpz : bp < wr.heap.size := Nat.lt_of_lt_of_le hbp BWZ.size
                  clear hcp hz HT3 HI8 HI9 HI10 HT HPS HTK HIIM' HU2
                  cases t with
                  | true =>
                    go_wp2_with fail
                    go_quiet (fail)
                    have BZ2 := below_drewN BZ nq
                    clear d0 d1 m3 m6 BWZ
                    go_wp2
                    exact ⟨⟨q + 1, true, by omega, by go_num, rfl, HTK3.out true (by simp), BZ2⟩, by simp [intOf]; omega⟩
                  | false =>
                    by_cases hp : zpos ≤ (n : Int)
                    · have hp' : decide (zpos ≤ (n : Int)) = true := decide_eq_true hp
                      have g9 : IntKind.i64.wrap (zpos + wd) = zpos + wd := by rw [i64_is]; unfold wrap64; omega
                      by_cases hp2 : (n : Int) < zpos + wd
                      · have hp2' : decide ((n : Int) < zpos + wd) = true := decide_eq_true hp2
                        have HUU : Hid ((true = true) ↔ (false = true ∨ ¬ CZ)) := (⟨fun _ => .inr (fun hc => by rcases HCL.out.1 hc with h | h <;> omega), fun _ => rfl⟩ : (true = true) ↔ (false = true ∨ ¬ CZ))
                        go_wp2_with fail
                        go_quiet ((go_at_call 16; go_must (refine Calls.quiet_of_same (HW.out _))))
                        have BZ2 := below_drewN BZ nq
                        clear d0 d1 m3 m6 BWZ
                        go_wp2
                        exact ⟨⟨q + 1, true, by omega, by go_num, rfl, HTK3.out true (by have := HUU.out; simpa using this), BZ2⟩, by simp [intOf]; omega⟩
                      · have hp2' : decide ((n : Int) < zpos + wd) = false := decide_eq_false hp2
                        have HUU : Hid ((false = true) ↔ (false = true ∨ ¬ CZ)) := (⟨fun h => .inl h, fun h => h.elim id (fun hc => absurd (HCL.out.2 (.inr (by omega))) hc)⟩ : (false = true) ↔ (false = true ∨ ¬ CZ))
                        go_wp2_with fail
                        go_quiet ((go_at_call 16; go_must (refine Calls.quiet_of_same (HW.out _))))
                        have BZ2 := below_drewN BZ nq
                        clear d0 d1 m3 m6 BWZ
                        go_wp2
                        exact ⟨⟨q + 1, false, by omega, by go_num, rfl, HTK3.out false (by have := HUU.out; simpa using this), BZ2⟩, by simp [intOf]; omega⟩
                    · have hp' : decide (zpos ≤ (n : Int)) = false := decide_eq_false hp
                      have HUU : Hid ((false = true) ↔ (false = true ∨ ¬ CZ)) := (⟨fun h => .inl h, fun h => h.elim id (fun hc => absurd (HCL.out.2 (.inl (by omega))) hc)⟩ : (false = true) ↔ (false = true ∨ ¬ CZ))
                      go_wp2_with fail
                      go_quiet (fail)
                      have BZ2 := below_drewN BZ nq
                      clear d0 d1 m3 m6 BWZ
                      go_wp2
                      exact ⟨⟨q + 1, false, by omega, by go_num, rfl, HTK3.out false (by have := HUU.out; simpa using this), BZ2⟩, by simp [intOf]; omega⟩
                · obtain rfl : q = ps.length := by omega
                  have HEX : Hid (t = true ↔ ∃ y ∈ ps, ¬ clearOf y n) := by
                    have := HT3.out
                    rw [List.take_length] at this
                    exact this
                  have hbS := get_bt S
                  have hbX := get_bt X
                  have hnl3 : (n : Int) < (X.size : Int) := by omega
                  clear HT3 HI8 HI9 HT HPS HTK HIIM' hP
                  cases t with
                  | true =>
                    clear HI10 HEX
                    go_wp2_with fail
                    go_quiet (fail)
                    have BZ2 := below_drewN BZ nq
                    clear m3 m6
                    go_wp2
                    have z1 := hn1.out
                    have z2 := hnb.out
                    exact ⟨⟨n + 1, fun j => decide (j = G) || u' j, z1, by go_num, HU2, CellsAt.below UB BZ2 (CellsAt.lt UB), CellsAt.below MB BZ2 (CellsAt.lt MB), CellsAt.below KB BZ2 (CellsAt.lt KB), BB.trans (BZ2.mono BB.size)⟩, by simp [intOf]; omega⟩
                  | false =>
                    have hb := HI10.out n hnx2 (fun y hy => Classical.byContradiction fun hc => by have := HEX.out.2 ⟨y, hy, hc⟩; cases this)
                    have hb' : (bt S n != bt X n) = false := by rw [hb]; simp
                    clear HI10 HEX hb
                    go_wp2_with fail
                    go_quiet (fail)
                    have BZ2 := below_drewN BZ nq
                    clear m3 m6
                    go_wp2
                    have z1 := hn1.out
                    have z2 := hnb.out
                    exact ⟨⟨n + 1, fun j => decide (j = G) || u' j, z1, by go_num, HU2, CellsAt.below UB BZ2 (CellsAt.lt UB), CellsAt.below MB BZ2 (CellsAt.lt MB), CellsAt.below KB BZ2 (CellsAt.lt KB), BB.trans (BZ2.mono BB.size)⟩, by simp [intOf]; omega⟩
          · obtain rfl : n = S.size := by omega
            have HU2 : Hid (∀ q, q < 1024 → u' q = inImgs ((l.take (k + 1)).map PV.plc) q) := by
              intro q hq
              rw [HU.out q hq, HTK.out, HIIM'.out, hA1.out.2.1]
            clear HU HI8 HI9 HI10 HT HPS HTK HIIM' hP hA1 hE1
            go_wp2
            exact ⟨⟨k + 1, u', by omega, by go_num, HU2, UB, KB, BB⟩, by simp [intOf]; omega⟩
      · obtain rfl : k = l.length := by omega
        have HU2 : Hid (∀ n, n < 1024 → u n = inImgs (l.map PV.plc) n) := by
          have := HU.out
          rw [List.take_length] at this
          exact this
        clear HU HI HX HIN hat hrow
        obtain ⟨wO, hwO⟩ : ∃ wO, wO = wr := ⟨_, rfl⟩
        subst hwO
        have HUB : Hid _ := UB
        have HBB : Hid _ := BB
        clear UB KB BB
        go_wp2_with fail
        go_loopw [16] (fun i wz => ∃ (n : Nat), n ≤ 1024 ∧ i = .int .i64 n ∧ Below wO.heap.size wO wz) (fun i _ => 1024 - (intOf i).toNat)
        case atStart => exact ⟨0, Nat.zero_le _, rfl, Below.refl _ _⟩
        case round =>
          obtain ⟨n, hn, rfl, BZ⟩ := hrel
          have UZ := CellsAt.below HUB.out BZ (CellsAt.lt HUB.out)
          have BWZ := HBB.out.trans (BZ.mono HBB.out.size)
          by_cases hnl : n < 1024
          · have t1 := (CellsAt.cell UZ n).trans (HUG.out u n hnl)
            have hul := CellsAt.lt UZ
            have hu := HU2.out n hnl
            have n1 : (n : Int) < 1024 := by omega
            have n2 : (n : Int) < (T.size : Int) := by omega
            have n0 : ¬ ((n : Int) < 0) := by omega
            have n3 : n < T.size := by omega
            have hbT := get_bt T
            clear UZ BWZ
            cases hun : u n with
            | true =>
              rw [hun] at t1
              clear HT HU2 hu hun
              go_wp2
              exact ⟨⟨n + 1, by omega, by go_num, BZ⟩, by simp [intOf]; omega⟩
            | false =>
              rw [hun] at t1 hu
              have hb := HT.out n hnl hu.symm
              have hb' : (bt T n != 255) = false := by rw [hb]; rfl
              clear HT HU2 hu hun hb
              go_wp2
              exact ⟨⟨n + 1, by omega, by go_num, BZ⟩, by simp [intOf]; omega⟩
          · obtain rfl : n = 1024 := by omega
            have n2 : ¬ (((1024 : Nat) : Int) < (T.size : Int)) := by omega
            clear HT HU2 UZ
            go_wp2
            go_ret
            exact ⟨rfl, BWZ⟩
  · have hte' : (te != 0) = true := by simpa using hte
    obtain rfl := HE.out hte
    clear HD HE HIN hte HI hat hrow
    go_wp2
    go_ret
    exact ⟨by first | rfl | simp, BB⟩

end Go.Proofs.YtppmihnbpmkbnadGreat.linkMoved

/- Arguments that came in: texts, numbers, rows, a patch. -/
namespace Go.Proofs.YtppmihnbpmkbnadGreat
open Go.ChangeShapes Go.WideShapes Go.ChangeAt Go.RowKit Go.PlainAid Go.Deep

set_option maxRecDepth 100000

theorem list7 {α : Type} {l : List α} (h : l.length = 7) : ∃ a b c d e f g, l = [a, b, c, d, e, f, g] := by
  match l, h with
  | [a, b, c, d, e, f, g], _ => exact ⟨a, b, c, d, e, f, g, rfl⟩
theorem list4 {α : Type} {l : List α} (h : l.length = 4) : ∃ a b c d, l = [a, b, c, d] := by
  match l, h with
  | [a, b, c, d], _ => exact ⟨a, b, c, d, rfl⟩
theorem list2 {α : Type} {l : List α} (h : l.length = 2) : ∃ a b, l = [a, b] := by
  match l, h with
  | [a, b], _ => exact ⟨a, b, rfl⟩

section
variable {H : Type} {enc : TypeId × Value → H} {W : World} {spare : Nat → Bool} {held : Bool}

theorem row_of_trod {α : Type} [Inhabited α] {t e : TypeId} {sz fuel : Nat} {c : Value} {y : DataW H × List MemPlace} {cells : α → Nat → Value} {good : α → Prop} (ht : Tryz.prog.underlying t = some (.slice e)) (hsz : Tryz.prog.cellsOf e = sz) (h0 : 0 < sz)
    (conv : ∀ n cs z, cs.length = sz → DataW.trod enc Tryz.prog W 0 spare held n e cs = some z → ∃ x : α, (∀ i, i < sz → cs[i]? = some (cells x i)) ∧ good x)
    (h : DataW.trod enc Tryz.prog W 0 spare held fuel t [c] = some y) : ∃ l : List α, RowOf sz cells W.heap.size W c l ∧ ∀ x ∈ l, good x := by
  rcases open_slice ht h with ⟨hc, _⟩ | ⟨a, len, cap, m, n, D, Pl, hc, _, hl, hm, hmm, _, hx⟩
  · injection hc with hc
    subst hc
    exact ⟨[], ⟨none, 0, rfl, Nat.zero_le _, .inl rfl⟩, by simp⟩
  · injection hc with hc
    subst hc
    rw [hsz] at hx
    have hle : len ≤ m := by rw [hmm]; split <;> omega
    obtain ⟨X, hX⟩ := choose_lt (α := α) (n := len) (p := fun i x => (∀ j, j < sz → W.cell? (a.add (i * sz + j)) = some (cells x j)) ∧ good x) (fun i hi => by
      obtain ⟨cs', h1, h2⟩ := hx i (by omega)
      obtain ⟨_, hlen, hcell⟩ := World.cells?_some h1
      obtain ⟨x, hx1, hx2⟩ := conv n cs' _ hlen h2
      refine ⟨x, fun j hj => ?_, hx2⟩
      have h3 := hcell j hj
      rw [hx1 j hj] at h3
      have hadd : (a.add (i * sz)).add j = a.add (i * sz + j) ∨ W.cell? ((a.add (i * sz)).add j) = W.cell? (a.add (i * sz + j)) := by
        unfold Addr.add
        by_cases e1 : i * sz = 0
        · rw [if_pos e1, e1, Nat.zero_add]; exact .inl rfl
        · rw [if_neg e1]
          by_cases e2 : j = 0
          · rw [if_pos e2, e2, Nat.add_zero, if_neg e1]; exact .inl rfl
          · rw [if_neg e2, if_neg (by omega), Nat.add_assoc]; exact .inl rfl
      rcases hadd with hadd | hadd
      · rw [← hadd]; exact h3
      · rw [← hadd]; exact h3)
    refine ⟨(List.range len).map X, ⟨some a, cap, by simp, by simp; unfold maxLen at hm; omega, ?_⟩, ?_⟩
    · by_cases hz : len = 0
      · left
        subst hz
        rfl
      · right
        have hc0 := (hX 0 (by omega)).1 0 h0
        rw [Nat.zero_mul, Nat.zero_add] at hc0
        obtain ⟨b, off, spot⟩ := a
        have hsp : spot = none := by simpa [Addr.add] using World.cell?_spot hc0
        subst hsp
        refine ⟨b, off, rfl, ?_, fun j x hj i hi => ?_⟩
        · have := World.block_lt_of_cell? W _ hc0
          simpa [Addr.add] using this
        · have hjl : j < len := by
            have := (List.getElem?_eq_some_iff.1 hj).1
            simpa using this
          obtain rfl : X j = x := by
            rw [List.getElem?_map, List.getElem?_range hjl] at hj
            simpa using hj
          have h4 := (hX j hjl).1 i hi
          unfold Addr.add at h4
          by_cases e0 : j * sz + i = 0
          · rw [if_pos e0] at h4
            rw [Nat.add_assoc, e0]
            exact h4
          · rw [if_neg e0] at h4
            rw [Nat.add_assoc]
            exact h4
    · intro x hx
      obtain ⟨i, hi, rfl⟩ := List.mem_map.1 hx
      exact (hX i (by simpa using hi)).2

theorem str_of_trod {n : Nat} {c : Value} {y : DataW H × List MemPlace} (h : DataW.trod enc Tryz.prog W 0 spare held n 9 [c] = some y) : ∃ s : ByteArray, c = .string s ∧ s.size ≤ 9223372036854775807 := by
  obtain ⟨s, hc, _, hs⟩ := DataW.trod_string Tryz.underlying9 h
  injection hc with hc
  exact ⟨s, hc, hs⟩
theorem int_of_trod {n : Nat} {c : Value} {y : DataW H × List MemPlace} (h : DataW.trod enc Tryz.prog W 0 spare held n 3 [c] = some y) : ∃ k : Int, c = .int .i64 k := by
  obtain ⟨k, hc, _, _⟩ := DataW.trod_int Tryz.underlying3 h
  injection hc with hc
  exact ⟨k, hc⟩

theorem exp_of_trod (n : Nat) (cs : List Value) (z : DataW H × List MemPlace) (hl : cs.length = 2) (h : DataW.trod enc Tryz.prog W 0 spare held n 120 cs = some z) : ∃ x : Exp, (∀ i, i < 2 → cs[i]? = some (Exp.cell x i)) ∧ x.name.size ≤ 9223372036854775807 := by
  obtain ⟨xs, m, _, _, _, hlen, hf⟩ := DataW.trod_struct Tryz.underlying120 h
  obtain ⟨x0, x1, rfl⟩ := list2 hlen
  obtain ⟨c0, c1, rfl⟩ := list2 hl
  obtain ⟨s, rfl, hs⟩ := str_of_trod (hf 0 _ rfl)
  obtain ⟨k, rfl⟩ := int_of_trod (hf 1 _ rfl)
  refine ⟨⟨s, k⟩, fun i hi => ?_, hs⟩
  have : i = 0 ∨ i = 1 := by omega
  rcases this with rfl | rfl <;> rfl
theorem imp_of_trod (n : Nat) (cs : List Value) (z : DataW H × List MemPlace) (hl : cs.length = 4) (h : DataW.trod enc Tryz.prog W 0 spare held n 84 cs = some z) : ∃ x : Imp, (∀ i, i < 4 → cs[i]? = some (Imp.cell x i)) ∧ x.fits := by
  obtain ⟨xs, m, _, _, _, hlen, hf⟩ := DataW.trod_struct Tryz.underlying84 h
  obtain ⟨x0, x1, x2, x3, rfl⟩ := list4 hlen
  obtain ⟨c0, c1, c2, c3, rfl⟩ := list4 hl
  obtain ⟨s, rfl, hs⟩ := str_of_trod (hf 0 _ rfl)
  obtain ⟨t, rfl, ht⟩ := str_of_trod (hf 1 _ rfl)
  obtain ⟨k, rfl⟩ := int_of_trod (hf 2 _ rfl)
  obtain ⟨j, rfl⟩ := int_of_trod (hf 3 _ rfl)
  refine ⟨⟨s, t, k, j⟩, fun i hi => ?_, ⟨hs, ht⟩⟩
  have : i = 0 ∨ i = 1 ∨ i = 2 ∨ i = 3 := by omega
  rcases this with rfl | rfl | rfl | rfl <;> rfl
theorem pat_of_trod (n : Nat) (cs : List Value) (z : DataW H × List MemPlace) (hl : cs.length = 4) (h : DataW.trod enc Tryz.prog W 0 spare held n 43 cs = some z) : ∃ x : Pat, (∀ i, i < 4 → cs[i]? = some (Pat.cell x i)) ∧ True := by
  obtain ⟨xs, m, _, _, _, hlen, hf⟩ := DataW.trod_struct Tryz.underlying43 h
  obtain ⟨x0, x1, x2, x3, rfl⟩ := list4 hlen
  obtain ⟨c0, c1, c2, c3, rfl⟩ := list4 hl
  obtain ⟨a, rfl⟩ := int_of_trod (hf 0 _ rfl)
  obtain ⟨b, rfl⟩ := int_of_trod (hf 1 _ rfl)
  obtain ⟨k, rfl⟩ := int_of_trod (hf 2 _ rfl)
  obtain ⟨j, rfl⟩ := int_of_trod (hf 3 _ rfl)
  refine ⟨⟨a, b, k, j⟩, fun i hi => ?_, trivial⟩
  have : i = 0 ∨ i = 1 ∨ i = 2 ∨ i = 3 := by omega
  rcases this with rfl | rfl | rfl | rfl <;> rfl

theorem open_patch {v : Value} {d : DataW H} {ps : List MemPlace} {base : Nat} (hv : Value.okWide Tryz.prog W .any base 43 v) (h : DataW.Trod enc Tryz.prog W 0 spare held 43 v d ps) : ∃ p : Pat, v = .agg #[.int .i64 p.kind, .int .i64 p.pos, .int .i64 p.sym, .int .i64 p.add] := by
  obtain ⟨cs, rfl, hcs⟩ := okWide_struct Tryz.underlying43 hv
  obtain ⟨fuel, hf⟩ := h
  obtain ⟨xs, m, _, _, hl, hlen, hf⟩ := DataW.trod_struct Tryz.underlying43 hf
  have hc4 : Tryz.prog.cellsOf 43 = 4 := by kernel_rfl
  obtain ⟨x0, x1, x2, x3, rfl⟩ := list4 hlen
  rw [hc4] at hl
  obtain ⟨c0, c1, c2, c3, hcl⟩ := list4 hl
  have hcs' : cs.toList = [c0, c1, c2, c3] := hcl
  have hcA : cs = #[c0, c1, c2, c3] := by rw [← Array.toArray_toList (xs := cs), hcs']
  subst hcA
  have f0 := hf 0 _ rfl
  have f1 := hf 1 _ rfl
  have f2 := hf 2 _ rfl
  have f3 := hf 3 _ rfl
  obtain ⟨a, rfl⟩ := int_of_trod f0
  obtain ⟨b, rfl⟩ := int_of_trod f1
  obtain ⟨c, rfl⟩ := int_of_trod f2
  obtain ⟨e, rfl⟩ := int_of_trod f3
  exact ⟨⟨a, b, c, e⟩, rfl⟩
end

end Go.Proofs.YtppmihnbpmkbnadGreat

/- A module that came in. -/
namespace Go.Proofs.YtppmihnbpmkbnadGreat
open Go.ChangeShapes Go.WideShapes Go.ChangeAt Go.RowKit Go.PlainAid Go.Deep

set_option maxRecDepth 100000

section
variable {H : Type} {enc : TypeId × Value → H} {W : World} {spare : Nat → Bool} {held : Bool}

theorem open_module {v : Value} {d : DataW H} {ps : List MemPlace} {base : Nat} (hv : Value.okWide Tryz.prog W .any base 39 v) (h : DataW.Trod enc Tryz.prog W 0 spare held 39 v d ps) : ∃ M, IsMod W.heap.size W v M ∧ M.fits := by
  obtain ⟨cs, rfl, hcs⟩ := okWide_struct Tryz.underlying39 hv
  obtain ⟨fuel, hf⟩ := h
  obtain ⟨xs, m, _, _, hl, hlen, hf⟩ := DataW.trod_struct Tryz.underlying39 hf
  have hc7 : Tryz.prog.cellsOf 39 = 7 := by kernel_rfl
  obtain ⟨x0, x1, x2, x3, x4, x5, x6, rfl⟩ := list7 hlen
  rw [hc7] at hl
  obtain ⟨c0, c1, c2, c3, c4, c5, c6, hcl⟩ := list7 hl
  have hcs' : cs.toList = [c0, c1, c2, c3, c4, c5, c6] := hcl
  have hcA : cs = #[c0, c1, c2, c3, c4, c5, c6] := by rw [← Array.toArray_toList (xs := cs), hcs']
  subst hcA
  have f0 := hf 0 _ rfl
  have f1 := hf 1 _ rfl
  have f2 := hf 2 _ rfl
  have f3 := hf 3 _ rfl
  have f4 := hf 4 _ rfl
  have f5 := hf 5 _ rfl
  have f6 := hf 6 _ rfl
  obtain ⟨N, rfl, hN⟩ := str_of_trod f0
  obtain ⟨a, rfl⟩ := int_of_trod f1
  obtain ⟨b, rfl⟩ := int_of_trod f2
  obtain ⟨T, rfl, hT⟩ := str_of_trod f3
  have _ : Inhabited Exp := ⟨⟨⟨#[]⟩, 0⟩⟩
  have _ : Inhabited Imp := ⟨⟨⟨#[]⟩, ⟨#[]⟩, 0, 0⟩⟩
  have _ : Inhabited Pat := ⟨⟨0, 0, 0, 0⟩⟩
  obtain ⟨es, hE, gE⟩ := row_of_trod (cells := Exp.cell) Tryz.underlying22 (sz := 2) (by kernel_rfl) (by decide) exp_of_trod f4
  obtain ⟨is, hI, gI⟩ := row_of_trod (cells := Imp.cell) Tryz.underlying36 (sz := 4) (by kernel_rfl) (by decide) imp_of_trod f5
  obtain ⟨ps, hP, _⟩ := row_of_trod (cells := Pat.cell) Tryz.underlying37 (sz := 4) (by kernel_rfl) (by decide) pat_of_trod f6
  exact ⟨⟨N, a, b, T, es, is, ps⟩, ⟨c4, c5, c6, rfl, hE, hI, hP⟩, hN, hT, gE, gI⟩
end

end Go.Proofs.YtppmihnbpmkbnadGreat
