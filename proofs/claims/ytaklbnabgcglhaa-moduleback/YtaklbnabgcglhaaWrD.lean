/- The contract of the writer's module. -/
import Derived.Test.YtaklbnabgcglhaaWrC
import Derived.Deep.RegionWith
namespace Go.Proofs.Ytaklbnabgcglhaa
open Go.RowKit Go.PlainAid Go.Lib

theorem box7 {W : World} {c : Nat} {t : TypeId} {fz : Nat × Nat} {a0 a1 a2 a3 a4 a5 a6 : Value} (h : W.heap[c]? = some (.cells #[a0, a1, a2, a3, a4, a5, a6] t fz)) :
    W.cell? ⟨c, 0, none⟩ = some a0 ∧ W.cell? ⟨c, 1, none⟩ = some a1 ∧ W.cell? ⟨c, 2, none⟩ = some a2 ∧ W.cell? ⟨c, 3, none⟩ = some a3 ∧ W.cell? ⟨c, 4, none⟩ = some a4 ∧ W.cell? ⟨c, 5, none⟩ = some a5 ∧ W.cell? ⟨c, 6, none⟩ = some a6 := by
  simp [World.cell?, h]

def expB (e : Exp) : List UInt8 := nameB e.name ++ numsBytes 2 [e.pos]
def impB (i : Imp) : List UInt8 := nameB i.mod ++ nameB i.name ++ numsBytes 1 [i.major, i.minor]
def patB (p : Pat) : List UInt8 := numsBytes 1 [p.kind] ++ numsBytes 2 [p.pos] ++ numsBytes 1 [p.sym + 1] ++ numsBytes 2 [p.add]
def headB (M : Mod) : List UInt8 := nameB M.name ++ numsBytes 1 [M.major, M.minor] ++ numsBytes 2 [(M.text.size : Int)] ++ M.text.data.toList ++ numsBytes 1 [(M.exps.length : Int)]
def encL (M : Mod) : List UInt8 := headB M ++ M.exps.flatMap expB ++ numsBytes 1 [(M.imps.length : Int)] ++ M.imps.flatMap impB ++ numsBytes 1 [(M.pats.length : Int)] ++ M.pats.flatMap patB

/-- So great that all can be written. -/
structure Mod.small (M : Mod) : Prop where
  name : M.name.size ≤ 1000
  text : M.text.size ≤ 1000
  nexps : M.exps.length ≤ 6
  nimps : M.imps.length ≤ 6
  npats : M.pats.length ≤ 12
  exps : ∀ e ∈ M.exps, e.name.size ≤ 1000
  imps : ∀ i ∈ M.imps, i.mod.size ≤ 1000 ∧ i.name.size ≤ 1000
  syms : ∀ p ∈ M.pats, -1 ≤ p.sym ∧ p.sym ≤ 1000

theorem flatMap_take_le {α : Type} (f : α → List UInt8) (c : Nat) : ∀ (l : List α), (∀ x ∈ l, (f x).length ≤ c) → (l.flatMap f).length ≤ c * l.length
  | [], _ => by simp
  | x :: l, h => by
    have h1 := h x (by simp)
    have h2 := flatMap_take_le f c l (fun y hy => h y (by simp [hy]))
    rw [List.flatMap_cons, List.length_append, List.length_cons, Nat.mul_succ]; omega
theorem flatMap_take_succ {α β : Type} (f : α → List β) (l : List α) (k : Nat) (x : α) (h : l[k]? = some x) : (l.take (k + 1)).flatMap f = (l.take k).flatMap f ++ f x := by
  rw [List.take_add_one, h]; simp

theorem expB_length (e : Exp) : (expB e).length = 3 + e.name.size := by
  unfold expB; rw [List.length_append, nameB_length, numsBytes_length]; simp; omega
theorem impB_length (i : Imp) : (impB i).length = 4 + i.mod.size + i.name.size := by
  unfold impB; rw [List.length_append, List.length_append, nameB_length, nameB_length, numsBytes_length]; simp; omega
theorem patB_length (p : Pat) : (patB p).length = 6 := by
  unfold patB; rw [List.length_append, List.length_append, List.length_append, numsBytes_length, numsBytes_length, numsBytes_length, numsBytes_length]; simp

set_option maxRecDepth 100000 in
set_option maxHeartbeats 2000000 in
theorem wmodule_any (M : Mod) (v : Value) (B n₀ : Nat) (w : World) (h : Writes w B []) (hn : n₀ ≤ B) (hM : IsMod n₀ w v M) (hs : M.small) :
    Calls Try.prog 37 #[.pointer (some ⟨B, 0, none⟩), v] w fun e w' => e = .returned (.tuple #[]) ∧ Writes w' B (encL M) ∧ KeepsW B w w' := by
  obtain ⟨ve, vi, vp, rfl, hE, hI, hP⟩ := hM
  have HS : Hid M.small := hs
  have hE0 := hE
  have hI0 := hI
  have hP0 := hP
  obtain ⟨pe, ke, rfl, _, hE⟩ := hE
  obtain ⟨pi, ki, rfl, _, hI⟩ := hI
  obtain ⟨pp, kp, rfl, _, hP⟩ := hP
  have hlt := h.lt
  have HW0 : Hid (Writes (w.alloc (.cells #[.string M.name, .int .i64 M.major, .int .i64 M.minor, .string M.text, .slice pe M.exps.length ke, .slice pi M.imps.length ki, .slice pp M.pats.length kp] 39)) B []) := h.below ((Below.refl _ _).alloc (Nat.le_refl _) _)
  have HK0 : Hid (KeepsW B w (w.alloc (.cells #[.string M.name, .int .i64 M.major, .int .i64 M.minor, .string M.text, .slice pe M.exps.length ke, .slice pi M.imps.length ki, .slice pp M.pats.length kp] 39))) := (KeepsW.refl B w).alloc (by omega) _
  have HX0 : Hid ((w.alloc (.cells #[.string M.name, .int .i64 M.major, .int .i64 M.minor, .string M.text, .slice pe M.exps.length ke, .slice pi M.imps.length ki, .slice pp M.pats.length kp] 39)).heap[w.heap.size]? = some (.cells #[.string M.name, .int .i64 M.major, .int .i64 M.minor, .string M.text, .slice pe M.exps.length ke, .slice pi M.imps.length ki, .slice pp M.pats.length kp] 39 (0, 0))) := World.alloc_heap_new w _
  have hcB : w.heap.size ≠ B := by omega
  clear hE0 hI0 hP0 h hs
  go_enter Try.func37, Try.ntmps37
  go_wp2_with fail
  refine (wname_any B M.name [] _ HW0.out (by simp) (by have := HS.out.name; omega)).mono ?_
  rintro e w1 ⟨rfl, hW1, hK1⟩
  rw [List.nil_append] at hW1
  have hX1 := hK1.other _ _ _ _ hcB (by decide) HX0.out
  have K1 := HK0.out.trans hK1
  obtain ⟨q0, q1, q2, q3, q4, q5, q6⟩ := box7 hX1
  clear hK1
  go_wp2_with fail
  refine (num2 B M.major M.minor _ w1 hW1 (by rw [nameB_length]; have := HS.out.name; omega)).mono ?_
  rintro e w2 ⟨rfl, hW2, hK2⟩
  have hX2 := hK2.other _ _ _ _ hcB (by decide) hX1
  have K2 := K1.trans hK2
  clear hK2 K1 hX1 hW1 q0 q1 q2 q3 q4 q5 q6
  obtain ⟨q0, q1, q2, q3, q4, q5, q6⟩ := box7 hX2
  go_wp2_with fail
  refine (num1 B 2 (.inr rfl) M.text.size _ w2 hW2 (by rw [List.length_append, nameB_length, numsBytes_length]; simp; have := HS.out.name; omega) _ rfl).mono ?_
  rintro e w3 ⟨rfl, hW3, hK3⟩
  have hX3 := hK3.other _ _ _ _ hcB (by decide) hX2
  have K3 := K2.trans hK3
  clear hK3 K2 hX2 hW2 q0 q1 q2 q3 q4 q5 q6
  obtain ⟨q0, q1, q2, q3, q4, q5, q6⟩ := box7 hX3
  have HA : Hid (∀ W, Below w3.heap.size w3 W → Calls Try.prog 63 #[.pointer (some ⟨B, 0, none⟩), .string M.text] W fun e w' => e = .returned (.tuple #[]) ∧ Writes w' B (nameB M.name ++ numsBytes 1 [M.major, M.minor] ++ numsBytes 2 [(M.text.size : Int)] ++ M.text.data.toList) ∧ KeepsW B w3 w') := by
    intro W hb
    exact (add_any B _ M.text W (hW3.below hb) (by rw [List.length_append, List.length_append, nameB_length, numsBytes_length, numsBytes_length]; simp; have := HS.out.name; have := HS.out.text; omega)).mono fun e w' ⟨h1, h2, h3⟩ => ⟨h1, h2, (KeepsW.of_below hb (Nat.le_of_lt hW3.lt)).trans h3⟩
  go_wp2_with fail
  go_region_with (go_at_call 63; go_must (refine (HA.out _ (by first | exact (Below.refl _ _).drew | exact below_drewN (Below.refl _ _) _)).mono ?_); rintro e w4 ⟨rfl, hW4, hK4⟩)
  have hX4 := hK4.other _ _ _ _ hcB (by decide) hX3
  have K4 := K3.trans hK4
  clear hK4 K3 hX3 hW3 q0 q1 q2 q3 q4 q5 q6 HA
  obtain ⟨q0, q1, q2, q3, q4, q5, q6⟩ := box7 hX4
  go_wp2_with fail
  refine (num1 B 1 (.inl rfl) M.exps.length _ w4 hW4 (by rw [List.length_append, List.length_append, List.length_append, nameB_length, numsBytes_length, numsBytes_length]; simp; have := HS.out.name; have := HS.out.text; omega) _ rfl).mono ?_
  rintro e w5 ⟨rfl, hW5, hK5⟩
  have hX5 := hK5.other _ _ _ _ hcB (by decide) hX4
  have K5 := K4.trans hK5
  clear hK5 K4 hX4 hW4 q0 q1 q2 q3 q4 q5 q6
  obtain ⟨q0, q1, q2, q3, q4, q5, q6⟩ := box7 hX5
  have HHL : Hid ((headB M).length ≤ 3000) := by
    show (headB M).length ≤ 3000
    unfold headB
    rw [List.length_append, List.length_append, List.length_append, List.length_append, nameB_length, numsBytes_length, numsBytes_length, numsBytes_length]; simp; have := HS.out.name; have := HS.out.text; omega
  change Writes w5 B (headB M) at hW5
  have HEL : Hid (∀ k, ((M.exps.take k).flatMap expB).length ≤ 7000) := by
    intro k
    have h1 := flatMap_take_le expB 1003 (M.exps.take k) (fun x hx => by rw [expB_length]; have := HS.out.exps x (List.mem_of_mem_take hx); omega)
    have h2 : (M.exps.take k).length ≤ 6 := by rw [List.length_take]; have := HS.out.nexps; omega
    omega
  have HIL : Hid (∀ k, ((M.imps.take k).flatMap impB).length ≤ 14000) := by
    intro k
    have h1 := flatMap_take_le impB 2004 (M.imps.take k) (fun x hx => by rw [impB_length]; have := HS.out.imps x (List.mem_of_mem_take hx); omega)
    have h2 : (M.imps.take k).length ≤ 6 := by rw [List.length_take]; have := HS.out.nimps; omega
    omega
  have HPL : Hid (∀ k, ((M.pats.take k).flatMap patB).length ≤ 72) := by
    intro k
    have h1 := flatMap_take_le patB 6 (M.pats.take k) (fun x _ => by rw [patB_length]; omega)
    have h2 : (M.pats.take k).length ≤ 12 := by rw [List.length_take]; have := HS.out.npats; omega
    omega
  have hne : M.exps.length ≤ 6 := HS.out.nexps
  have hni : M.imps.length ≤ 6 := HS.out.nimps
  have hnp : M.pats.length ≤ 12 := HS.out.npats
  go_wp2
  clear q0 q1 q2 q3 q4 q5 q6
  go_loopw [42] (fun i wr => ∃ (k : Nat), k ≤ M.exps.length ∧ i = .int .i64 k ∧ Writes wr B (headB M ++ (M.exps.take k).flatMap expB) ∧ KeepsW B w5 wr) (fun i _ => M.exps.length - (intOf i).toNat)
  case atStart => exact ⟨0, Nat.zero_le _, rfl, by simpa using hW5, KeepsW.refl _ _⟩
  case round =>
    obtain ⟨k, hk, rfl, hW, hK⟩ := hrel
    by_cases hlt1 : k < M.exps.length
    · obtain ⟨p, hp⟩ : ∃ p, M.exps[k]? = some p := ⟨_, List.getElem?_eq_getElem hlt1⟩
      rcases hE with h | ⟨b, off, rfl, hbn, hc⟩
      · rw [h] at hlt1; simp at hlt1
      have Kw := K5.trans hK
      have c0 := (Kw.below.cell (p := ⟨b, off + k * 2 + 0, none⟩) (by simp; omega)).trans (hc k _ hp 0 (by omega))
      have c1 := (Kw.below.cell (p := ⟨b, off + k * 2 + 1, none⟩) (by simp; omega)).trans (hc k _ hp 1 (by omega))
      have HN : Hid (∀ w, Writes w B (headB M ++ (M.exps.take k).flatMap expB) → Calls Try.prog 61 #[.pointer (some ⟨B, 0, none⟩), .string p.name] w fun e w' => e = .returned (.tuple #[]) ∧ Writes w' B (headB M ++ (M.exps.take k).flatMap expB ++ nameB p.name) ∧ KeepsW B w w') :=
        fun w hw => wname_any B p.name _ w hw (by rw [List.length_append]; have := HHL.out; have := HEL.out k; omega) (by have := HS.out.exps p (List.mem_of_getElem? hp); omega)
      have HQ : Hid (∀ w, Writes w B (headB M ++ (M.exps.take k).flatMap expB ++ nameB p.name) → Calls Try.prog 62 #[.pointer (some ⟨B, 0, none⟩), .int .i64 2, .slice (some ⟨w.heap.size, 0, none⟩) 1 1] (w.alloc (.cells #[.int .i64 p.pos] 3)) fun e w' => e = .returned (.tuple #[]) ∧ Writes w' B (headB M ++ (M.exps.take (k + 1)).flatMap expB) ∧ KeepsW B w w') := by
        intro w hw
        have := num1 B 2 (.inr rfl) p.pos _ w hw (by rw [List.length_append, List.length_append, nameB_length]; have := HHL.out; have := HEL.out k; have := HS.out.exps p (List.mem_of_getElem? hp); omega) _ rfl
        rwa [List.append_assoc, List.append_assoc, show nameB p.name ++ numsBytes 2 [p.pos] = expB p from rfl, ← flatMap_take_succ expB _ _ _ hp] at this
      obtain ⟨n, A⟩ := p
      dsimp only [Exp.cell] at c0 c1 HN HQ
      rw [Nat.add_zero] at c0
      have hBr := hW.lt
      clear hc hp Kw
      go_wp2_with fail
      refine (HN.out _ (hW.below ((Below.refl _ _).alloc (Nat.le_refl _) _))).mono ?_
      rintro e w6 ⟨rfl, hW6, hK6⟩
      have hb6 := hK6.other wr.heap.size _ _ _ (by omega) (by decide) (World.alloc_heap_new wr _)
      have x1 : w6.cell? ⟨wr.heap.size, 1, none⟩ = some (.int .i64 A) := by simp [World.cell?, hb6]
      clear hb6
      go_wp2_with fail
      refine (HQ.out _ hW6).mono ?_
      rintro e w7 ⟨rfl, hW7, hK7⟩
      go_wp2
      exact ⟨⟨k + 1, by omega, by go_num, hW7, hK.trans ((((KeepsW.refl B wr).alloc (by omega) _).trans hK6).trans hK7)⟩, by simp [intOf]; omega⟩
    · obtain rfl : k = M.exps.length := by omega
      rw [List.take_length] at hW
      have hX6 := hK.other _ _ _ _ hcB (by decide) hX5
      have K6 := K5.trans hK
      obtain ⟨q0, q1, q2, q3, q4, q5, q6⟩ := box7 hX6
      clear hE hX5 hK K5 HEL
      have HL1 : Hid ((headB M ++ M.exps.flatMap expB).length ≤ 10000) := by
        show (headB M ++ M.exps.flatMap expB).length ≤ 10000
        have h1 := flatMap_take_le expB 1003 M.exps (fun x hx => by rw [expB_length]; have := HS.out.exps x hx; omega)
        rw [List.length_append]; have := HHL.out; omega
      obtain ⟨L1, E1⟩ : ∃ L, Hid (L = headB M ++ M.exps.flatMap expB) := ⟨_, rfl⟩
      rw [← E1.out] at hW HL1
      clear HHL
      go_wp2_with fail
      refine (num1 B 1 (.inl rfl) M.imps.length _ wr hW (by have := HL1.out; omega) _ rfl).mono ?_
      rintro e v1 ⟨rfl, hV1, hJ1⟩
      have hX7 := hJ1.other _ _ _ _ hcB (by decide) hX6
      have K7 := K6.trans hJ1
      clear hJ1 K6 hX6 hW q0 q1 q2 q3 q4 q5 q6
      obtain ⟨q0, q1, q2, q3, q4, q5, q6⟩ := box7 hX7
      have HL2 : Hid ((L1 ++ numsBytes 1 [(M.imps.length : Int)]).length ≤ 10100) := by
        show (L1 ++ numsBytes 1 [(M.imps.length : Int)]).length ≤ 10100
        rw [List.length_append, numsBytes_length]; simp; have := HL1.out; omega
      obtain ⟨L2, E2⟩ : ∃ L, Hid (L = L1 ++ numsBytes 1 [(M.imps.length : Int)]) := ⟨_, rfl⟩
      rw [← E2.out] at hV1 HL2
      clear HL1
      go_wp2
      clear q0 q1 q2 q3 q4 q5 q6
      go_loopw [65] (fun i wr => ∃ (k : Nat), k ≤ M.imps.length ∧ i = .int .i64 k ∧ Writes wr B (L2 ++ (M.imps.take k).flatMap impB) ∧ KeepsW B v1 wr) (fun i _ => M.imps.length - (intOf i).toNat)
      case atStart => exact ⟨0, Nat.zero_le _, rfl, by simpa using hV1, KeepsW.refl _ _⟩
      case round =>
        obtain ⟨k, hk, rfl, hW, hK⟩ := hrel
        by_cases hlt2 : k < M.imps.length
        · obtain ⟨p, hp⟩ : ∃ p, M.imps[k]? = some p := ⟨_, List.getElem?_eq_getElem hlt2⟩
          rcases hI with h | ⟨b, off, rfl, hbn, hc⟩
          · rw [h] at hlt2; simp at hlt2
          have Kw := K7.trans hK
          have c0 := (Kw.below.cell (p := ⟨b, off + k * 4 + 0, none⟩) (by simp; omega)).trans (hc k _ hp 0 (by omega))
          have c1 := (Kw.below.cell (p := ⟨b, off + k * 4 + 1, none⟩) (by simp; omega)).trans (hc k _ hp 1 (by omega))
          have c2 := (Kw.below.cell (p := ⟨b, off + k * 4 + 2, none⟩) (by simp; omega)).trans (hc k _ hp 2 (by omega))
          have c3 := (Kw.below.cell (p := ⟨b, off + k * 4 + 3, none⟩) (by simp; omega)).trans (hc k _ hp 3 (by omega))
          have hsz := HS.out.imps p (List.mem_of_getElem? hp)
          have HN1 : Hid (∀ w, Writes w B (L2 ++ (M.imps.take k).flatMap impB) → Calls Try.prog 61 #[.pointer (some ⟨B, 0, none⟩), .string p.mod] w fun e w' => e = .returned (.tuple #[]) ∧ Writes w' B (L2 ++ (M.imps.take k).flatMap impB ++ nameB p.mod) ∧ KeepsW B w w') :=
            fun w hw => wname_any B p.mod _ w hw (by rw [List.length_append]; have := HL2.out; have := HIL.out k; omega) (by omega)
          have HN2 : Hid (∀ w, Writes w B (L2 ++ (M.imps.take k).flatMap impB ++ nameB p.mod) → Calls Try.prog 61 #[.pointer (some ⟨B, 0, none⟩), .string p.name] w fun e w' => e = .returned (.tuple #[]) ∧ Writes w' B (L2 ++ (M.imps.take k).flatMap impB ++ nameB p.mod ++ nameB p.name) ∧ KeepsW B w w') :=
            fun w hw => wname_any B p.name _ w hw (by rw [List.length_append, List.length_append, nameB_length]; have := HL2.out; have := HIL.out k; omega) (by omega)
          have HQ : Hid (∀ w, Writes w B (L2 ++ (M.imps.take k).flatMap impB ++ nameB p.mod ++ nameB p.name) → Calls Try.prog 62 #[.pointer (some ⟨B, 0, none⟩), .int .i64 1, .slice (some ⟨w.heap.size, 0, none⟩) 2 2] (w.alloc (.cells #[.int .i64 p.major, .int .i64 p.minor] 3)) fun e w' => e = .returned (.tuple #[]) ∧ Writes w' B (L2 ++ (M.imps.take (k + 1)).flatMap impB) ∧ KeepsW B w w') := by
            intro w hw
            have := num2 B p.major p.minor _ w hw (by rw [List.length_append, List.length_append, List.length_append, nameB_length, nameB_length]; have := HL2.out; have := HIL.out k; omega)
            have e : L2 ++ (M.imps.take k).flatMap impB ++ nameB p.mod ++ nameB p.name ++ numsBytes 1 [p.major, p.minor] = L2 ++ (M.imps.take (k + 1)).flatMap impB := by
              rw [flatMap_take_succ impB _ _ _ hp]; simp [impB]
            rwa [e] at this
          obtain ⟨m, n, va, vb⟩ := p
          dsimp only [Imp.cell] at c0 c1 c2 c3 HN1 HN2 HQ
          rw [Nat.add_zero] at c0
          have hBr := hW.lt
          clear hc hp Kw hsz
          go_wp2_with fail
          refine (HN1.out _ (hW.below ((Below.refl _ _).alloc (Nat.le_refl _) _))).mono ?_
          rintro e v2 ⟨rfl, hV2, hJ2⟩
          have hb2 := hJ2.other wr.heap.size _ _ _ (by omega) (by decide) (World.alloc_heap_new wr _)
          have x1 : v2.cell? ⟨wr.heap.size, 1, none⟩ = some (.string n) := by simp [World.cell?, hb2]
          go_wp2_with fail
          refine (HN2.out _ hV2).mono ?_
          rintro e v3 ⟨rfl, hV3, hJ3⟩
          have hb3 := hJ3.other wr.heap.size _ _ _ (by omega) (by decide) hb2
          have x2 : v3.cell? ⟨wr.heap.size, 2, none⟩ = some (.int .i64 va) := by simp [World.cell?, hb3]
          have x3 : v3.cell? ⟨wr.heap.size, 3, none⟩ = some (.int .i64 vb) := by simp [World.cell?, hb3]
          clear hb2 hb3
          go_wp2_with fail
          refine (HQ.out _ hV3).mono ?_
          rintro e v4 ⟨rfl, hV4, hJ4⟩
          go_wp2
          exact ⟨⟨k + 1, by omega, by go_num, hV4, hK.trans (((((KeepsW.refl B wr).alloc (by omega) _).trans hJ2).trans hJ3).trans hJ4)⟩, by simp [intOf]; omega⟩
        · obtain rfl : k = M.imps.length := by omega
          rw [List.take_length] at hW
          have hX8 := hK.other _ _ _ _ hcB (by decide) hX7
          have K8 := K7.trans hK
          obtain ⟨q0, q1, q2, q3, q4, q5, q6⟩ := box7 hX8
          clear hI hX7 hK K7 HIL
          have HL3 : Hid ((L2 ++ M.imps.flatMap impB).length ≤ 30000) := by
            show (L2 ++ M.imps.flatMap impB).length ≤ 30000
            have h1 := flatMap_take_le impB 2004 M.imps (fun x hx => by rw [impB_length]; have := HS.out.imps x hx; omega)
            rw [List.length_append]; have := HL2.out; omega
          obtain ⟨L3, E3⟩ : ∃ L, Hid (L = L2 ++ M.imps.flatMap impB) := ⟨_, rfl⟩
          rw [← E3.out] at hW HL3
          clear HL2
          go_wp2_with fail
          refine (num1 B 1 (.inl rfl) M.pats.length _ wr hW (by have := HL3.out; omega) _ rfl).mono ?_
          rintro e u1 ⟨rfl, hU1, hJ1⟩
          have hX9 := hJ1.other _ _ _ _ hcB (by decide) hX8
          have K9 := K8.trans hJ1
          clear hJ1 K8 hX8 hW q0 q1 q2 q3 q4 q5 q6
          obtain ⟨q0, q1, q2, q3, q4, q5, q6⟩ := box7 hX9
          have HL4 : Hid ((L3 ++ numsBytes 1 [(M.pats.length : Int)]).length ≤ 30100) := by
            show (L3 ++ numsBytes 1 [(M.pats.length : Int)]).length ≤ 30100
            rw [List.length_append, numsBytes_length]; simp; have := HL3.out; omega
          obtain ⟨L4, E4⟩ : ∃ L, Hid (L = L3 ++ numsBytes 1 [(M.pats.length : Int)]) := ⟨_, rfl⟩
          rw [← E4.out] at hU1 HL4
          clear HL3
          go_wp2
          clear q0 q1 q2 q3 q4 q5 q6
          go_loopw [94] (fun i wr => ∃ (k : Nat), k ≤ M.pats.length ∧ i = .int .i64 k ∧ Writes wr B (L4 ++ (M.pats.take k).flatMap patB) ∧ KeepsW B u1 wr) (fun i _ => M.pats.length - (intOf i).toNat)
          case atStart => exact ⟨0, Nat.zero_le _, rfl, by simpa using hU1, KeepsW.refl _ _⟩
          case round =>
            obtain ⟨k, hk, rfl, hW, hK⟩ := hrel
            by_cases hlt3 : k < M.pats.length
            · obtain ⟨p, hp⟩ : ∃ p, M.pats[k]? = some p := ⟨_, List.getElem?_eq_getElem hlt3⟩
              rcases hP with h | ⟨b, off, rfl, hbn, hc⟩
              · rw [h] at hlt3; simp at hlt3
              have Kw := K9.trans hK
              have c0 := (Kw.below.cell (p := ⟨b, off + k * 4 + 0, none⟩) (by simp; omega)).trans (hc k _ hp 0 (by omega))
              have c1 := (Kw.below.cell (p := ⟨b, off + k * 4 + 1, none⟩) (by simp; omega)).trans (hc k _ hp 1 (by omega))
              have c2 := (Kw.below.cell (p := ⟨b, off + k * 4 + 2, none⟩) (by simp; omega)).trans (hc k _ hp 2 (by omega))
              have c3 := (Kw.below.cell (p := ⟨b, off + k * 4 + 3, none⟩) (by simp; omega)).trans (hc k _ hp 3 (by omega))
              have hsym := HS.out.syms p (List.mem_of_getElem? hp)
              obtain ⟨hsy0, hsy1⟩ := hsym
              have HLk : Hid ((L4 ++ (M.pats.take k).flatMap patB).length ≤ 40000) := by
                show (L4 ++ (M.pats.take k).flatMap patB).length ≤ 40000
                rw [List.length_append]; have := HL4.out; have := HPL.out k; omega
              have HQ1 : Hid (∀ w, Writes w B (L4 ++ (M.pats.take k).flatMap patB) → Calls Try.prog 62 #[.pointer (some ⟨B, 0, none⟩), .int .i64 1, .slice (some ⟨w.heap.size, 0, none⟩) 1 1] (w.alloc (.cells #[.int .i64 p.kind] 3)) fun e w' => e = .returned (.tuple #[]) ∧ Writes w' B (L4 ++ (M.pats.take k).flatMap patB ++ numsBytes 1 [p.kind]) ∧ KeepsW B w w') :=
                fun w hw => num1 B 1 (.inl rfl) p.kind _ w hw (by have := HLk.out; omega) _ rfl
              have HQ2 : Hid (∀ w, Writes w B (L4 ++ (M.pats.take k).flatMap patB ++ numsBytes 1 [p.kind]) → Calls Try.prog 62 #[.pointer (some ⟨B, 0, none⟩), .int .i64 2, .slice (some ⟨w.heap.size, 0, none⟩) 1 1] (w.alloc (.cells #[.int .i64 p.pos] 3)) fun e w' => e = .returned (.tuple #[]) ∧ Writes w' B (L4 ++ (M.pats.take k).flatMap patB ++ numsBytes 1 [p.kind] ++ numsBytes 2 [p.pos]) ∧ KeepsW B w w') :=
                fun w hw => num1 B 2 (.inr rfl) p.pos _ w hw (by rw [List.length_append, numsBytes_length]; have := HLk.out; simp only [List.length_cons, List.length_nil]; omega) _ rfl
              have HQ3 : Hid (∀ w, Writes w B (L4 ++ (M.pats.take k).flatMap patB ++ numsBytes 1 [p.kind] ++ numsBytes 2 [p.pos]) → Calls Try.prog 62 #[.pointer (some ⟨B, 0, none⟩), .int .i64 1, .slice (some ⟨w.heap.size, 0, none⟩) 1 1] (w.alloc (.cells #[.int .i64 (p.sym + 1)] 3)) fun e w' => e = .returned (.tuple #[]) ∧ Writes w' B (L4 ++ (M.pats.take k).flatMap patB ++ numsBytes 1 [p.kind] ++ numsBytes 2 [p.pos] ++ numsBytes 1 [p.sym + 1]) ∧ KeepsW B w w') :=
                fun w hw => num1 B 1 (.inl rfl) (p.sym + 1) _ w hw (by rw [List.length_append, List.length_append, numsBytes_length, numsBytes_length]; have := HLk.out; simp only [List.length_cons, List.length_nil]; omega) _ rfl
              have HQ4 : Hid (∀ w, Writes w B (L4 ++ (M.pats.take k).flatMap patB ++ numsBytes 1 [p.kind] ++ numsBytes 2 [p.pos] ++ numsBytes 1 [p.sym + 1]) → Calls Try.prog 62 #[.pointer (some ⟨B, 0, none⟩), .int .i64 2, .slice (some ⟨w.heap.size, 0, none⟩) 1 1] (w.alloc (.cells #[.int .i64 p.add] 3)) fun e w' => e = .returned (.tuple #[]) ∧ Writes w' B (L4 ++ (M.pats.take (k + 1)).flatMap patB) ∧ KeepsW B w w') := by
                intro w hw
                have := num1 B 2 (.inr rfl) p.add _ w hw (by rw [List.length_append, List.length_append, List.length_append, numsBytes_length, numsBytes_length, numsBytes_length]; have := HLk.out; simp only [List.length_cons, List.length_nil]; omega) _ rfl
                have e : L4 ++ (M.pats.take k).flatMap patB ++ numsBytes 1 [p.kind] ++ numsBytes 2 [p.pos] ++ numsBytes 1 [p.sym + 1] ++ numsBytes 2 [p.add] = L4 ++ (M.pats.take (k + 1)).flatMap patB := by
                  rw [flatMap_take_succ patB _ _ _ hp]; simp only [patB, List.append_assoc]
                rwa [e] at this
              obtain ⟨K, A, S, D⟩ := p
              dsimp only [Pat.cell] at c0 c1 c2 c3 HQ1 HQ2 HQ3 HQ4 hsy0 hsy1
              rw [Nat.add_zero] at c0
              have hBr := hW.lt
              have HQ1b : Hid (Calls Try.prog 62 #[.pointer (some ⟨B, 0, none⟩), .int .i64 1, .slice (some ⟨wr.heap.size + 1, 0, none⟩) 1 1] ((wr.alloc (.cells #[.int .i64 K, .int .i64 A, .int .i64 S, .int .i64 D] 48)).alloc (.cells #[.int .i64 K] 3)) fun e w' => e = .returned (.tuple #[]) ∧ Writes w' B (L4 ++ (M.pats.take k).flatMap patB ++ numsBytes 1 [K]) ∧ KeepsW B (wr.alloc (.cells #[.int .i64 K, .int .i64 A, .int .i64 S, .int .i64 D] 48)) w') := by
                have := HQ1.out (wr.alloc (.cells #[.int .i64 K, .int .i64 A, .int .i64 S, .int .i64 D] 48)) (hW.below ((Below.refl _ _).alloc (Nat.le_refl _) _))
                rwa [World.size_alloc] at this
              clear hc hp Kw HQ1
              go_wp2_with fail
              refine Calls.mono HQ1b.out ?_
              rintro e u2 ⟨rfl, hU2, hJ2⟩
              have hb2 := hJ2.other wr.heap.size _ _ _ (by omega) (by decide) (World.alloc_heap_new wr _)
              have x1 : u2.cell? ⟨wr.heap.size, 1, none⟩ = some (.int .i64 A) := by simp [World.cell?, hb2]
              go_wp2_with fail
              refine (HQ2.out _ hU2).mono ?_
              rintro e u3 ⟨rfl, hU3, hJ3⟩
              have hb3 := hJ3.other wr.heap.size _ _ _ (by omega) (by decide) hb2
              have x2 : u3.cell? ⟨wr.heap.size, 2, none⟩ = some (.int .i64 S) := by simp [World.cell?, hb3]
              go_wp2_with fail
              refine (HQ3.out _ hU3).mono ?_
              rintro e u4 ⟨rfl, hU4, hJ4⟩
              have hb4 := hJ4.other wr.heap.size _ _ _ (by omega) (by decide) hb3
              have x3 : u4.cell? ⟨wr.heap.size, 3, none⟩ = some (.int .i64 D) := by simp [World.cell?, hb4]
              clear hb2 hb3 hb4
              go_wp2_with fail
              refine (HQ4.out _ hU4).mono ?_
              rintro e u5 ⟨rfl, hU5, hJ5⟩
              go_wp2
              exact ⟨⟨k + 1, by omega, by go_num, hU5, hK.trans ((((((KeepsW.refl B wr).alloc (by omega) _).trans hJ2).trans hJ3).trans hJ4).trans hJ5)⟩, by simp [intOf]; omega⟩
            · obtain rfl : k = M.pats.length := by omega
              rw [List.take_length] at hW
              have HF : Hid (encL M = L4 ++ M.pats.flatMap patB) := by
                show encL M = _
                rw [E4.out, E3.out, E2.out, E1.out]; rfl
              clear hP
              go_wp2
              go_end0
              exact ⟨rfl, by rw [HF.out]; exact hW, K9.trans hK⟩

end Go.Proofs.Ytaklbnabgcglhaa
