/- The contract of module.Encode. -/
import Derived.Test.YtaklbnabgcglhaaWrD
namespace Go.Proofs.Ytaklbnabgcglhaa
open Go.RowKit Go.PlainAid Go.Lib

theorem chkExps_all (most : Int) : ∀ (l : List Exp) (met : List ByteArray), chkExps most met l = 0 → ∀ e ∈ l, isNm e.name = true ∧ 0 ≤ e.pos ∧ e.pos < most
  | [], _, _ => by simp
  | e :: l, met, h => by
    rw [chkExps] at h
    have key := expErr_cases most met e.name e.pos
    split at h
    · rename_i h0
      intro x hx
      rcases List.mem_cons.1 hx with rfl | hx
      · rcases key with ⟨_, k⟩ | ⟨_, _, k⟩ | ⟨_, _, _, k⟩ | ⟨_, _, _, _, k⟩ | ⟨k1, _, k2, k3, _⟩
        · exact absurd (h0.symm.trans k) (by omega)
        · exact absurd (h0.symm.trans k) (by omega)
        · exact absurd (h0.symm.trans k) (by omega)
        · exact absurd (h0.symm.trans k) (by omega)
        · exact ⟨k1, k2, k3⟩
      · exact chkExps_all most l _ h x hx
    · exact absurd h ‹_›
theorem chkImps_all : ∀ (l : List Imp) (met : List (ByteArray × ByteArray)), chkImps met l = 0 → ∀ i ∈ l, isNm i.mod = true ∧ isNm i.name = true ∧ isVer i.major i.minor = true
  | [], _, _ => by simp
  | e :: l, met, h => by
    rw [chkImps] at h
    have key := impErr_cases met e.mod e.name e.major e.minor
    split at h
    · rename_i h0
      intro x hx
      rcases List.mem_cons.1 hx with rfl | hx
      · rcases key with ⟨_, k⟩ | ⟨_, _, k⟩ | ⟨_, _, _, k⟩ | ⟨_, _, _, _, k⟩ | ⟨k1, k2, _, k3, _⟩
        · exact absurd (h0.symm.trans k) (by omega)
        · exact absurd (h0.symm.trans k) (by omega)
        · exact absurd (h0.symm.trans k) (by omega)
        · exact absurd (h0.symm.trans k) (by omega)
        · exact ⟨k1, k2, k3⟩
      · exact chkImps_all l _ h x hx
    · exact absurd h ‹_›
theorem chkPats_all (bytes imports : Int) : ∀ (l : List Pat) (ende : Int), chkPats bytes imports ende l = 0 → ∀ p ∈ l, width p.kind ≠ 0 ∧ -1 ≤ p.sym ∧ p.sym < imports ∧ 0 ≤ p.add ∧ p.add ≤ 65535 ∧ 0 ≤ p.pos ∧ p.pos ≤ bytes - width p.kind
  | [], _, _ => by simp
  | e :: l, ende, h => by
    rw [chkPats] at h
    have key := patErr_cases bytes imports ende e.kind e.pos e.sym e.add
    split at h
    · rename_i h0
      intro x hx
      rcases List.mem_cons.1 hx with rfl | hx
      · rcases key with ⟨_, k⟩ | ⟨k0, ⟨_, k⟩ | ⟨_, _, k⟩ | ⟨_, _, _, k⟩ | ⟨_, _, _, _, k⟩ | ⟨k1, k2, k3, k4, ⟨_, k⟩ | ⟨_, _, k⟩ | ⟨_, _, _, k⟩ | ⟨k5, k6, _, _⟩⟩⟩
        · exact absurd (h0.symm.trans k) (by omega)
        · exact absurd (h0.symm.trans k) (by omega)
        · exact absurd (h0.symm.trans k) (by omega)
        · exact absurd (h0.symm.trans k) (by omega)
        · exact absurd (h0.symm.trans k) (by omega)
        · exact absurd (h0.symm.trans k) (by omega)
        · exact absurd (h0.symm.trans k) (by omega)
        · exact absurd (h0.symm.trans k) (by omega)
        · exact ⟨k0, k1, k2, k3, k4, k5, k6⟩
      · exact chkPats_all bytes imports l _ h x hx
    · exact absurd h ‹_›

theorem chkMod_zero {M : Mod} (h : chkMod M = 0) : isNm M.name = true ∧ (M.name == kernelName) = false ∧ isVer M.major M.minor = true ∧ M.text.size ≤ 256 ∧ M.exps.length ≤ 6 ∧ M.imps.length ≤ 6 ∧ M.pats.length ≤ 12 ∧ 0 < M.text.size ∧ M.text.size % 4 = 0 ∧
    chkExps M.text.size [] M.exps = 0 ∧ chkImps [] M.imps = 0 ∧ chkPats M.text.size M.imps.length 0 M.pats = 0 := by
  rcases chkMod_cases M with ⟨_, k⟩ | ⟨h1, ⟨_, k⟩ | ⟨h2, ⟨_, k⟩ | ⟨h3, ⟨_, k⟩ | ⟨_, t1, t2, t3, t4, ⟨_, k⟩ | ⟨h5, ⟨_, k⟩ | ⟨h6, ⟨h7, k⟩ | ⟨h7, ⟨h8, k⟩ | ⟨h8, k⟩⟩⟩⟩⟩⟩⟩⟩
  · exact absurd (h.symm.trans k) (by omega)
  · exact absurd (h.symm.trans k) (by omega)
  · exact absurd (h.symm.trans k) (by omega)
  · exact absurd (h.symm.trans k) (by omega)
  · exact absurd (h.symm.trans k) (by omega)
  · exact absurd (h.symm.trans k) (by omega)
  · exact absurd (h.symm.trans k).symm h7
  · exact absurd (h.symm.trans k).symm h8
  · exact ⟨h1, h2, h3, t1, t2, t3, t4, h5, h6, h7, h8, k.symm.trans h⟩

theorem small_of_chk {M : Mod} (h : chkMod M = 0) : M.small := by
  obtain ⟨h1, _, _, t1, t2, t3, t4, _, _, h7, h8, h9⟩ := chkMod_zero h
  refine ⟨by have := isNm_size h1; omega, by omega, t2, t3, t4, fun e he => ?_, fun i hi => ?_, fun p hp => ?_⟩
  · have := isNm_size (chkExps_all _ _ _ h7 e he).1; omega
  · obtain ⟨a, b, _⟩ := chkImps_all _ _ h8 i hi
    have := isNm_size a; have := isNm_size b; omega
  · obtain ⟨_, a, b, _⟩ := chkPats_all _ _ _ _ h9 p hp
    omega

def encS (M : Mod) : ByteArray := ⟨(encL M).toArray⟩
def encR (M : Mod) : ByteArray := if chkMod M = 0 then encS M else ⟨#[]⟩

set_option maxRecDepth 100000 in
set_option maxHeartbeats 1000000 in
theorem encode_any (M : Mod) (v : Value) (w : World) (hM : IsMod w.heap.size w v M) (hf : M.fits) :
    Calls Try.prog 17 #[v] w fun e w' => e = .returned (.tuple #[.string (encR M), .int .i64 (chkMod M)]) ∧ Below w.heap.size w w' := by
  have hM0 := hM
  obtain ⟨ve, vi, vp, rfl, hE, hI, hP⟩ := hM0
  obtain ⟨pe, ke, rfl, _, _⟩ := hE
  obtain ⟨pi, ki, rfl, _, _⟩ := hI
  obtain ⟨pp, kp, rfl, _, _⟩ := hP
  have HC : Hid (∀ W, Below w.heap.size w W → Calls Try.prog 23 #[.agg #[.string M.name, .int .i64 M.major, .int .i64 M.minor, .string M.text, .slice pe M.exps.length ke, .slice pi M.imps.length ki, .slice pp M.pats.length kp]] W fun e w' => e = .returned (.int .i64 (chkMod M)) ∧ Below W.heap.size W w') :=
    fun W hb => check_any M _ W ((hM.below hb).more hb.size) hf
  have HWM : Hid (∀ W B, Below w.heap.size w W → w.heap.size ≤ B → M.small → Writes W B [] → Calls Try.prog 37 #[.pointer (some ⟨B, 0, none⟩), .agg #[.string M.name, .int .i64 M.major, .int .i64 M.minor, .string M.text, .slice pe M.exps.length ke, .slice pi M.imps.length ki, .slice pp M.pats.length kp]] W fun e w' => e = .returned (.tuple #[]) ∧ Writes w' B (encL M) ∧ KeepsW B W w') :=
    fun W B hb hB hs hw => wmodule_any M _ B w.heap.size W hw hB (hM.below hb) hs
  have HW1 : Hid (Below w.heap.size w (w.alloc (.cells #[.string M.name, .int .i64 M.major, .int .i64 M.minor, .string M.text, .slice pe M.exps.length ke, .slice pi M.imps.length ki, .slice pp M.pats.length kp] 39))) := (Below.refl _ _).alloc (Nat.le_refl _) _
  have HX0 : Hid ((w.alloc (.cells #[.string M.name, .int .i64 M.major, .int .i64 M.minor, .string M.text, .slice pe M.exps.length ke, .slice pi M.imps.length ki, .slice pp M.pats.length kp] 39)).heap[w.heap.size]? = some (.cells #[.string M.name, .int .i64 M.major, .int .i64 M.minor, .string M.text, .slice pe M.exps.length ke, .slice pi M.imps.length ki, .slice pp M.pats.length kp] 39 (0, 0))) := World.alloc_heap_new w _
  clear hM hf
  by_cases h0 : chkMod M = 0
  · have hsm := small_of_chk h0
    have HR : Hid (encR M = ⟨(encL M).toArray⟩) := by show encR M = _; rw [encR, if_pos h0]; rfl
    rw [h0] at HC ⊢
    rw [HR.out]
    have HSM : Hid M.small := hsm
    clear h0 hsm HR
    go_enter Try.func17, Try.ntmps17
    go_wp2_with fail
    refine (HC.out _ HW1.out).mono ?_
    rintro e w1 ⟨rfl, b1⟩
    have B1 := HW1.out.trans (b1.mono HW1.out.size)
    have hX1 := (b1.block w.heap.size (by simp)).trans HX0.out
    have hz1 : w.heap.size < w1.heap.size := by have := b1.size; simp at this; omega
    obtain ⟨q0, q1, q2, q3, q4, q5, q6⟩ := box7 hX1
    have ka : ∀ o i v, w1.cell? ⟨w.heap.size, i, none⟩ = some v → (w1.alloc o).cell? ⟨w.heap.size, i, none⟩ = some v := fun o i v h => cell_kept h (World.grownBy_alloc w1 o none) (fun r e => by cases e)
    have r0 := fun o => ka o 0 _ q0
    have r1 := fun o => ka o 1 _ q1
    have r2 := fun o => ka o 2 _ q2
    have r3 := fun o => ka o 3 _ q3
    have r4 := fun o => ka o 4 _ q4
    have r5 := fun o => ka o 5 _ q5
    have r6 := fun o => ka o 6 _ q6
    have HWR : Hid (Writes (w1.alloc (.cells #[.slice none 0 0] 64)) w1.heap.size []) := ⟨.slice none 0 0, Boxed.new _ _ _, World.ownsRow_nil _ _ _ _⟩
    clear ka b1
    go_wp2_with fail
    refine (HWM.out _ _ (B1.alloc (by omega) _) (by omega) HSM.out HWR.out).mono ?_
    rintro e w2 ⟨rfl, hW2, hK2⟩
    have B2 : Below w.heap.size w w2 := (B1.alloc (by omega) _).trans (hK2.below.mono (by omega))
    go_wp2_with fail
    refine (whole_any _ _ w2 hW2).mono ?_
    rintro e w3 ⟨rfl, rfl⟩
    go_wp2
    go_ret2
    exact ⟨rfl, B2⟩
  · have HR : Hid (encR M = ⟨#[]⟩) := by show encR M = _; rw [encR, if_neg h0]
    rw [HR.out]
    have hne : (chkMod M != 0) = true := by simpa using h0
    clear h0 HR HWM
    generalize chkMod M = R at *
    go_enter Try.func17, Try.ntmps17
    go_wp2_with fail
    refine (HC.out _ HW1.out).mono ?_
    rintro e w1 ⟨rfl, b1⟩
    go_wp2
    go_ret2
    exact ⟨rfl, HW1.out.trans (b1.mono HW1.out.size)⟩

end Go.Proofs.Ytaklbnabgcglhaa
