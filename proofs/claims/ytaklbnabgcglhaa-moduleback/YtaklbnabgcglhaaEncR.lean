/- The contract of the document's EncodeOf. -/
import Derived.Test.YtaklbnabgcglhaaEncA
import Derived.Test.YtaklbnabgcglhaaRefB
import Derived.Lib.QuietBelow
namespace Go.Proofs.Ytaklbnabgcglhaa
open Go.RowKit Go.PlainAid Go.Lib

def toBa (l : List UInt8) : ByteArray := ⟨l.toArray⟩
theorem toBa_append (a b : List UInt8) : toBa a ++ toBa b = toBa (a ++ b) := by
  unfold toBa; rw [ByteArray.mk_append_mk]
theorem toBa_size (l : List UInt8) : (toBa l).size = l.length := by
  show l.toArray.size = l.length
  simp
theorem toBa_self (s : ByteArray) : toBa s.data.toList = s := rfl
theorem bytesN_toBa (n : Int) (m : Nat) : bytesN n m = toBa (numsBytes m [n]) := by
  unfold numsBytes toBa
  simp

theorem box4 {W : World} {c : Nat} {t : TypeId} {fz : Nat × Nat} {a0 a1 a2 a3 : Value} (h : W.heap[c]? = some (.cells #[a0, a1, a2, a3] t fz)) :
    W.cell? ⟨c, 0, none⟩ = some a0 ∧ W.cell? ⟨c, 1, none⟩ = some a1 ∧ W.cell? ⟨c, 2, none⟩ = some a2 ∧ W.cell? ⟨c, 3, none⟩ = some a3 := by
  simp [World.cell?, h]

set_option maxHeartbeats 400000 in
theorem nameBytes_any (s : ByteArray) (w : World) (hs : s.size ≤ 100000) :
    Calls Try.prog 44 #[.string s] w fun e w' => e = .returned (.string (toBa (nameB s))) ∧ Below w.heap.size w w' := by
  have HB : Hid (∀ w, Calls Try.prog 14 #[.int .i64 s.size, .int .i64 1] w fun e w' => e = .returned (.string (bytesN s.size 1)) ∧ Below w.heap.size w w') := fun w => bytesOf_any s.size 1 w (by omega)
  have hz : (bytesN s.size 1).size = 1 := bytesN_size _ _
  have c1 : ¬ (9223372036854775807 < 1 + s.size) := by omega
  have HF : Hid (bytesN s.size 1 ++ s = toBa (nameB s)) := by
    show bytesN s.size 1 ++ s = toBa (nameB s)
    rw [bytesN_toBa, ← toBa_self s, toBa_append]; rfl
  clear hs
  go_enter Try.func44, Try.ntmps44
  go_wp2_with fail
  refine (HB.out _).mono ?_
  rintro e w1 ⟨rfl, b1⟩
  go_wp2
  go_ret
  exact ⟨by rw [← HF.out]; rfl, b1⟩

set_option maxRecDepth 100000 in
set_option maxHeartbeats 2000000 in
theorem encodeOf_any (M : Mod) (v : Value) (w : World) (hM : IsMod w.heap.size w v M) (hs : M.small) :
    Calls Try.prog 20 #[v] w fun e w' => e = .returned (.string (encS M)) ∧ Below w.heap.size w w' := by
  obtain ⟨ve, vi, vp, rfl, hE, hI, hP⟩ := hM
  have HS : Hid M.small := hs
  obtain ⟨pe, ke, rfl, _, hE⟩ := hE
  obtain ⟨pi, ki, rfl, _, hI⟩ := hI
  obtain ⟨pp, kp, rfl, _, hP⟩ := hP
  have hne : M.exps.length ≤ 6 := HS.out.nexps
  have hni : M.imps.length ≤ 6 := HS.out.nimps
  have hnp : M.pats.length ≤ 12 := HS.out.npats
  have hnm := HS.out.name
  have htx := HS.out.text
  obtain ⟨NB, ENB⟩ : ∃ x, Hid (x = toBa (nameB M.name)) := ⟨_, rfl⟩
  have hNB : NB.size ≤ 1001 := by rw [ENB.out, toBa_size, nameB_length]; omega
  have HN : Hid (∀ w, Calls Try.prog 44 #[.string M.name] w fun e w' => e = .returned (.string NB) ∧ Below w.heap.size w w') := fun w => by rw [ENB.out]; exact nameBytes_any M.name w (by omega)
  have HB1 : Hid (∀ n w, Calls Try.prog 14 #[.int .i64 n, .int .i64 1] w fun e w' => e = .returned (.string (bytesN n 1)) ∧ Below w.heap.size w w') := fun n w => bytesOf_any n 1 w (by omega)
  have HB2 : Hid (∀ n w, Calls Try.prog 14 #[.int .i64 n, .int .i64 2] w fun e w' => e = .returned (.string (bytesN n 2)) ∧ Below w.heap.size w w') := fun n w => bytesOf_any n 2 w (by omega)
  have hz1 : ∀ n, (bytesN n 1).size = 1 := fun n => bytesN_size n 1
  have hz2 : ∀ n, (bytesN n 2).size = 2 := fun n => bytesN_size n 2
  have c1 : ¬ (9223372036854775807 < NB.size + 1) := by omega
  have c2 : ¬ (9223372036854775807 < NB.size + 1 + 1) := by omega
  have c3 : ¬ (9223372036854775807 < NB.size + 1 + 1 + 2) := by omega
  have c4 : ¬ (9223372036854775807 < NB.size + 1 + 1 + 2 + M.text.size) := by omega
  have c5 : ¬ (9223372036854775807 < NB.size + 1 + 1 + 2 + M.text.size + 1) := by omega
  have HF : Hid (NB ++ bytesN M.major 1 ++ bytesN M.minor 1 ++ bytesN M.text.size 2 ++ M.text ++ bytesN M.exps.length 1 = toBa (headB M)) := by
    show NB ++ bytesN M.major 1 ++ bytesN M.minor 1 ++ bytesN M.text.size 2 ++ M.text ++ bytesN M.exps.length 1 = toBa (headB M)
    rw [ENB.out, bytesN_toBa, bytesN_toBa, bytesN_toBa, bytesN_toBa, ← toBa_self M.text, toBa_append, toBa_append, toBa_append, toBa_append, toBa_append]
    congr 1
    simp [headB, numsBytes]
    rfl
  have HHL : Hid ((headB M).length ≤ 3000) := by
    show (headB M).length ≤ 3000
    unfold headB
    rw [List.length_append, List.length_append, List.length_append, List.length_append, nameB_length, numsBytes_length, numsBytes_length, numsBytes_length]; simp; omega
  obtain ⟨q0, q1, q2, q3, q4, q5, q6⟩ := box7 (World.alloc_heap_new w (.cells #[.string M.name, .int .i64 M.major, .int .i64 M.minor, .string M.text, .slice pe M.exps.length ke, .slice pi M.imps.length ki, .slice pp M.pats.length kp] 39))
  have g0 := cell_regrown q0
  have g1 := cell_regrown q1
  have g2 := cell_regrown q2
  have g3 := cell_regrown q3
  have g4 := cell_regrown q4
  clear q0 q1 q2 q3 q4 q5 q6
  go_enter Try.func20, Try.ntmps20
  go_wp2_with fail
  refine wp_region_quiet_below (by kernel_rfl) (by kernel_rfl) ?_
  repeat (quiet_step ((first
    | (go_at_call 44; go_must (exact Calls.regrown_of (HN.out _)))
    | (go_at_call_of 14 (Value.int IntKind.i64 1); go_must (exact Calls.regrown_of (HB1.out _ _)))
    | (go_at_call_of 14 (Value.int IntKind.i64 2); go_must (exact Calls.regrown_of (HB2.out _ _))))))
  refine wpQuiet_nil ?_
  intro w1 hw'
  obtain ⟨⟨dq, osq⟩, hw''⟩ := hw'
  have HW1 : Below w.heap.size w (w.alloc (.cells #[.string M.name, .int .i64 M.major, .int .i64 M.minor, .string M.text, .slice pe M.exps.length ke, .slice pi M.imps.length ki, .slice pp M.pats.length kp] 39)) := (Below.refl _ _).alloc (Nat.le_refl _) _
  have hb0 : Below (w.heap.size + 1) (w.alloc (.cells #[.string M.name, .int .i64 M.major, .int .i64 M.minor, .string M.text, .slice pe M.exps.length ke, .slice pi M.imps.length ki, .slice pp M.pats.length kp] 39)) w1 := by
    rw [hw'']
    have := below_regrown (w.alloc (.cells #[.string M.name, .int .i64 M.major, .int .i64 M.minor, .string M.text, .slice pe M.exps.length ke, .slice pi M.imps.length ki, .slice pp M.pats.length kp] 39)) dq osq
    rwa [World.size_alloc] at this
  have hX1 := (hb0.block w.heap.size (by omega)).trans (World.alloc_heap_new w _)
  have B1 := HW1.trans (hb0.mono (by omega))
  have hsz1 : w.heap.size < w1.heap.size := by have := hb0.size; simp at this; omega
  obtain ⟨q0, q1, q2, q3, q4, q5, q6⟩ := box7 hX1
  clear hw'' g0 g1 g2 g3 g4 hb0 HW1 c1 c2 c3 c4 c5 hX1 q0 q1 q2 q3
  go_wp2
  go_loopw [3, 4] (fun s i wr => ∃ (k : Nat) (S : ByteArray), k ≤ M.exps.length ∧ i = .int .i64 k ∧ s = .string S ∧ S.size ≤ 20000 ∧ Hid (S = toBa (headB M ++ (M.exps.take k).flatMap expB)) ∧ Below w1.heap.size w1 wr) (fun _ i _ => M.exps.length - (intOf i).toNat)
  case atStart =>
    refine ⟨0, _, Nat.zero_le _, rfl, rfl, ?_, ?_, Below.refl _ _⟩
    · rw [HF.out, toBa_size]; have := HHL.out; omega
    · show _ = toBa (headB M ++ (M.exps.take 0).flatMap expB)
      rw [HF.out]; simp
  case round =>
    obtain ⟨k, S, hk, rfl, rfl, hS, ES, B⟩ := hrel
    have k4 := (B.cell (p := ⟨w.heap.size, 4, none⟩) hsz1).trans q4
    by_cases hlt : k < M.exps.length
    · obtain ⟨p, hp⟩ : ∃ p, M.exps[k]? = some p := ⟨_, List.getElem?_eq_getElem hlt⟩
      rcases hE with h | ⟨b, off, rfl, hbn, hc⟩
      · rw [h] at hlt; simp at hlt
      have Bw := B1.trans (B.mono B1.size)
      have r0 := (Bw.cell (p := ⟨b, off + k * 2 + 0, none⟩) hbn).trans (hc k _ hp 0 (by omega))
      have r1 := (Bw.cell (p := ⟨b, off + k * 2 + 1, none⟩) hbn).trans (hc k _ hp 1 (by omega))
      have hpn := HS.out.exps p (List.mem_of_getElem? hp)
      obtain ⟨NK, EK⟩ : ∃ x, Hid (x = toBa (nameB p.name)) := ⟨_, rfl⟩
      have hNK : NK.size ≤ 1001 := by rw [EK.out, toBa_size, nameB_length]; omega
      have HNK : Hid (∀ w, Calls Try.prog 44 #[.string p.name] w fun e w' => e = .returned (.string NK) ∧ Below w.heap.size w w') := fun w => by rw [EK.out]; exact nameBytes_any p.name w (by omega)
      have HS2 : Hid (S ++ (NK ++ bytesN p.pos 2) = toBa (headB M ++ (M.exps.take (k + 1)).flatMap expB)) := by
        show S ++ (NK ++ bytesN p.pos 2) = _
        rw [ES.out, EK.out, bytesN_toBa, toBa_append, toBa_append, flatMap_take_succ expB _ _ _ hp, List.append_assoc]; rfl
      have HL2 : Hid ((S ++ (NK ++ bytesN p.pos 2)).size ≤ 20000) := by
        show (S ++ (NK ++ bytesN p.pos 2)).size ≤ 20000
        rw [HS2.out, toBa_size, List.length_append]
        have h1 := flatMap_take_le expB 1003 (M.exps.take (k + 1)) (fun x hx => by rw [expB_length]; have := HS.out.exps x (List.mem_of_mem_take hx); omega)
        have h2 : (M.exps.take (k + 1)).length ≤ 6 := by rw [List.length_take]; omega
        have := HHL.out
        omega
      have d1 : ¬ (9223372036854775807 < NK.size + 2) := by omega
      have d2 : ¬ (9223372036854775807 < S.size + (NK.size + 2)) := by omega
      obtain ⟨n, A⟩ := p
      dsimp only [Exp.cell] at r0 r1 HNK HS2 HL2
      rw [Nat.add_zero] at r0
      have g4 := cell_regrown k4
      have g0 := cell_regrown r0
      have g1 := cell_regrown r1
      clear hc hp Bw r0 r1 hpn
      go_wp2
      refine wp_region_quiet_below (by kernel_rfl) (by kernel_rfl) ?_
      repeat (quiet_step ((first
        | (go_at_call 44; go_must (exact Calls.regrown_of (HNK.out _)))
        | (go_at_call 14; go_must (exact Calls.regrown_of (HB2.out _ _))))))
      refine wpQuiet_nil ?_
      intro w2 hw'
      obtain ⟨⟨dq, osq⟩, hw''⟩ := hw'
      have B2 : Below w1.heap.size w1 w2 := by rw [hw'']; exact B.trans ((below_regrown wr dq osq).mono B.size)
      clear hw''
      go_wp2
      exact ⟨⟨k + 1, _, by omega, by go_num, rfl, HL2.out, HS2.out, B2⟩, by simp [intOf]; omega⟩
    · obtain rfl : k = M.exps.length := by omega
      rw [List.take_length] at ES
      have k5 := (B.cell (p := ⟨w.heap.size, 5, none⟩) hsz1).trans q5
      have e0 : ¬ (9223372036854775807 < S.size + 1) := by omega
      clear hE
      go_wp2_with fail
      refine (HB1.out _ _).mono ?_
      rintro e v1 ⟨rfl, b1⟩
      have Bv := B.trans (b1.mono B.size)
      have HL1 : Hid ((headB M ++ M.exps.flatMap expB ++ numsBytes 1 [(M.imps.length : Int)]).length ≤ 10000) := by
        show (headB M ++ M.exps.flatMap expB ++ numsBytes 1 [(M.imps.length : Int)]).length ≤ 10000
        have h1 := flatMap_take_le expB 1003 M.exps (fun x hx => by rw [expB_length]; have := HS.out.exps x hx; omega)
        rw [List.length_append, List.length_append, numsBytes_length]; simp only [List.length_cons, List.length_nil]; have := HHL.out; omega
      have ES1 : Hid (S ++ bytesN M.imps.length 1 = toBa (headB M ++ M.exps.flatMap expB ++ numsBytes 1 [(M.imps.length : Int)])) := by
        show S ++ bytesN M.imps.length 1 = _
        rw [ES.out, bytesN_toBa, toBa_append]
      obtain ⟨L1, E1⟩ : ∃ L, Hid (L = headB M ++ M.exps.flatMap expB ++ numsBytes 1 [(M.imps.length : Int)]) := ⟨_, rfl⟩
      rw [← E1.out] at ES1 HL1
      clear b1 B e0 k5 k4 hlt
      go_wp2
      go_loopw [3, 5] (fun s i wr => ∃ (k : Nat) (S : ByteArray), k ≤ M.imps.length ∧ i = .int .i64 k ∧ s = .string S ∧ S.size ≤ 40000 ∧ Hid (S = toBa (L1 ++ (M.imps.take k).flatMap impB)) ∧ Below w1.heap.size w1 wr) (fun _ i _ => M.imps.length - (intOf i).toNat)
      case atStart =>
        refine ⟨0, _, Nat.zero_le _, rfl, rfl, ?_, ?_, Bv⟩
        · rw [ES1.out, toBa_size]; have := HL1.out; omega
        · show _ = toBa (L1 ++ (M.imps.take 0).flatMap impB)
          rw [ES1.out]; simp
      case round =>
        obtain ⟨k, S, hk, rfl, rfl, hS, ES, B⟩ := hrel
        have k5 := (B.cell (p := ⟨w.heap.size, 5, none⟩) hsz1).trans q5
        by_cases hlt : k < M.imps.length
        · obtain ⟨p, hp⟩ : ∃ p, M.imps[k]? = some p := ⟨_, List.getElem?_eq_getElem hlt⟩
          rcases hI with h | ⟨b, off, rfl, hbn, hc⟩
          · rw [h] at hlt; simp at hlt
          have Bw := B1.trans (B.mono B1.size)
          have r0 := (Bw.cell (p := ⟨b, off + k * 4 + 0, none⟩) hbn).trans (hc k _ hp 0 (by omega))
          have r1 := (Bw.cell (p := ⟨b, off + k * 4 + 1, none⟩) hbn).trans (hc k _ hp 1 (by omega))
          have r2 := (Bw.cell (p := ⟨b, off + k * 4 + 2, none⟩) hbn).trans (hc k _ hp 2 (by omega))
          have r3 := (Bw.cell (p := ⟨b, off + k * 4 + 3, none⟩) hbn).trans (hc k _ hp 3 (by omega))
          obtain ⟨hp1, hp2⟩ := HS.out.imps p (List.mem_of_getElem? hp)
          have HNN : Hid (∀ s : ByteArray, s.size ≤ 1000 → ∀ w, Calls Try.prog 44 #[.string s] w fun e w' => e = .returned (.string (toBa (nameB s))) ∧ Below w.heap.size w w') := fun s hs w => nameBytes_any s w (by omega)
          have y1 : (toBa (nameB p.mod)).size = 1 + p.mod.size := by rw [toBa_size, nameB_length]
          have y2 : (toBa (nameB p.name)).size = 1 + p.name.size := by rw [toBa_size, nameB_length]
          have HS2 : Hid (S ++ (toBa (nameB p.mod) ++ toBa (nameB p.name) ++ bytesN p.major 1 ++ bytesN p.minor 1) = toBa (L1 ++ (M.imps.take (k + 1)).flatMap impB)) := by
            show S ++ (toBa (nameB p.mod) ++ toBa (nameB p.name) ++ bytesN p.major 1 ++ bytesN p.minor 1) = _
            rw [ES.out, bytesN_toBa, bytesN_toBa, toBa_append, toBa_append, toBa_append, toBa_append, flatMap_take_succ impB _ _ _ hp, List.append_assoc]
            congr 2
            simp [impB, numsBytes]
          have HL2 : Hid ((S ++ (toBa (nameB p.mod) ++ toBa (nameB p.name) ++ bytesN p.major 1 ++ bytesN p.minor 1)).size ≤ 40000) := by
            show (S ++ (toBa (nameB p.mod) ++ toBa (nameB p.name) ++ bytesN p.major 1 ++ bytesN p.minor 1)).size ≤ 40000
            rw [HS2.out, toBa_size, List.length_append]
            have h1 := flatMap_take_le impB 2004 (M.imps.take (k + 1)) (fun x hx => by rw [impB_length]; have := HS.out.imps x (List.mem_of_mem_take hx); omega)
            have h2 : (M.imps.take (k + 1)).length ≤ 6 := by rw [List.length_take]; omega
            have := HL1.out
            omega
          obtain ⟨m, n, va, vb⟩ := p
          dsimp only [Imp.cell] at r0 r1 r2 r3 HS2 HL2 hp1 hp2 y1 y2
          rw [Nat.add_zero] at r0
          have d1 : ¬ (9223372036854775807 < 1 + m.size + (1 + n.size)) := by omega
          have d2 : ¬ (9223372036854775807 < 1 + m.size + (1 + n.size) + 1) := by omega
          have d3 : ¬ (9223372036854775807 < 1 + m.size + (1 + n.size) + 1 + 1) := by omega
          have d4 : ¬ (9223372036854775807 < S.size + (1 + m.size + (1 + n.size) + 1 + 1)) := by omega
          clear hc hp Bw
          go_wp2
          obtain ⟨z0, z1, z2, z3⟩ := box4 (World.alloc_heap_new wr (.cells #[.string m, .string n, .int .i64 va, .int .i64 vb] 74))
          have g0 := cell_regrown z0
          have g1 := cell_regrown z1
          have g2 := cell_regrown z2
          have g3 := cell_regrown z3
          clear z0 z1 z2 z3
          refine wp_region_quiet_below (by kernel_rfl) (by kernel_rfl) ?_
          repeat (quiet_step ((first
            | (go_at_call_of 44 (m); go_must (exact Calls.regrown_of (HNN.out m hp1 _)))
            | (go_at_call_of 44 (n); go_must (exact Calls.regrown_of (HNN.out n hp2 _)))
            | (go_at_call 14; go_must (exact Calls.regrown_of (HB1.out _ _))))))
          refine wpQuiet_nil ?_
          intro w2 hw'
          obtain ⟨⟨dq, osq⟩, hw''⟩ := hw'
          have B2 : Below w1.heap.size w1 w2 := by rw [hw'']; exact (B.alloc B.size _).trans ((below_regrown _ dq osq).mono (by simp; have := B.size; omega))
          clear hw''
          go_wp2
          exact ⟨⟨k + 1, _, by omega, by go_num, rfl, HL2.out, HS2.out, B2⟩, by simp [intOf]; omega⟩
        · obtain rfl : k = M.imps.length := by omega
          rw [List.take_length] at ES
          have k6 := (B.cell (p := ⟨w.heap.size, 6, none⟩) hsz1).trans q6
          have e0 : ¬ (9223372036854775807 < S.size + 1) := by omega
          clear hI
          go_wp2_with fail
          refine (HB1.out _ _).mono ?_
          rintro e v2 ⟨rfl, b2⟩
          have Bv := B.trans (b2.mono B.size)
          have HL3 : Hid ((L1 ++ M.imps.flatMap impB ++ numsBytes 1 [(M.pats.length : Int)]).length ≤ 30000) := by
            show (L1 ++ M.imps.flatMap impB ++ numsBytes 1 [(M.pats.length : Int)]).length ≤ 30000
            have h1 := flatMap_take_le impB 2004 M.imps (fun x hx => by rw [impB_length]; have := HS.out.imps x hx; omega)
            rw [List.length_append, List.length_append, numsBytes_length]; simp only [List.length_cons, List.length_nil]; have := HL1.out; omega
          have ES2 : Hid (S ++ bytesN M.pats.length 1 = toBa (L1 ++ M.imps.flatMap impB ++ numsBytes 1 [(M.pats.length : Int)])) := by
            show S ++ bytesN M.pats.length 1 = _
            rw [ES.out, bytesN_toBa, toBa_append]
          obtain ⟨L3, E3⟩ : ∃ L, Hid (L = L1 ++ M.imps.flatMap impB ++ numsBytes 1 [(M.pats.length : Int)]) := ⟨_, rfl⟩
          rw [← E3.out] at ES2 HL3
          clear b2 B e0 k6 k5 hlt
          go_wp2
          go_loopw [3, 7] (fun s i wr => ∃ (k : Nat) (S : ByteArray), k ≤ M.pats.length ∧ i = .int .i64 k ∧ s = .string S ∧ S.size ≤ 40000 ∧ Hid (S = toBa (L3 ++ (M.pats.take k).flatMap patB)) ∧ Below w1.heap.size w1 wr) (fun _ i _ => M.pats.length - (intOf i).toNat)
          case atStart =>
            refine ⟨0, _, Nat.zero_le _, rfl, rfl, ?_, ?_, Bv⟩
            · rw [ES2.out, toBa_size]; have := HL3.out; omega
            · show _ = toBa (L3 ++ (M.pats.take 0).flatMap patB)
              rw [ES2.out]; simp
          case round =>
            obtain ⟨k, S, hk, rfl, rfl, hS, ES, B⟩ := hrel
            have k6 := (B.cell (p := ⟨w.heap.size, 6, none⟩) hsz1).trans q6
            by_cases hlt : k < M.pats.length
            · obtain ⟨p, hp⟩ : ∃ p, M.pats[k]? = some p := ⟨_, List.getElem?_eq_getElem hlt⟩
              rcases hP with h | ⟨b, off, rfl, hbn, hc⟩
              · rw [h] at hlt; simp at hlt
              have Bw := B1.trans (B.mono B1.size)
              have r0 := (Bw.cell (p := ⟨b, off + k * 4 + 0, none⟩) hbn).trans (hc k _ hp 0 (by omega))
              have r1 := (Bw.cell (p := ⟨b, off + k * 4 + 1, none⟩) hbn).trans (hc k _ hp 1 (by omega))
              have r2 := (Bw.cell (p := ⟨b, off + k * 4 + 2, none⟩) hbn).trans (hc k _ hp 2 (by omega))
              have r3 := (Bw.cell (p := ⟨b, off + k * 4 + 3, none⟩) hbn).trans (hc k _ hp 3 (by omega))
              obtain ⟨hs1, hs2⟩ := HS.out.syms p (List.mem_of_getElem? hp)
              have HS2 : Hid (S ++ (bytesN p.kind 1 ++ bytesN p.pos 2 ++ bytesN (p.sym + 1) 1 ++ bytesN p.add 2) = toBa (L3 ++ (M.pats.take (k + 1)).flatMap patB)) := by
                show S ++ (bytesN p.kind 1 ++ bytesN p.pos 2 ++ bytesN (p.sym + 1) 1 ++ bytesN p.add 2) = _
                rw [ES.out, bytesN_toBa, bytesN_toBa, bytesN_toBa, bytesN_toBa, toBa_append, toBa_append, toBa_append, toBa_append, flatMap_take_succ patB _ _ _ hp, List.append_assoc]
                rfl
              have HL2 : Hid ((S ++ (bytesN p.kind 1 ++ bytesN p.pos 2 ++ bytesN (p.sym + 1) 1 ++ bytesN p.add 2)).size ≤ 40000) := by
                show (S ++ (bytesN p.kind 1 ++ bytesN p.pos 2 ++ bytesN (p.sym + 1) 1 ++ bytesN p.add 2)).size ≤ 40000
                rw [HS2.out, toBa_size, List.length_append]
                have h1 := flatMap_take_le patB 6 (M.pats.take (k + 1)) (fun x _ => by rw [patB_length]; omega)
                have h2 : (M.pats.take (k + 1)).length ≤ 12 := by rw [List.length_take]; omega
                have := HL3.out
                omega
              obtain ⟨K, A, Sy, D⟩ := p
              dsimp only [Pat.cell] at r0 r1 r2 r3 HS2 HL2 hs1 hs2
              rw [Nat.add_zero] at r0
              have i1 : IntKind.i64.wrap (Sy + 1) = Sy + 1 := by rw [i64_is]; unfold wrap64; omega
              have d4 : ¬ (9223372036854775807 < S.size + 6) := by omega
              clear hc hp Bw
              go_wp2
              obtain ⟨z0, z1, z2, z3⟩ := box4 (World.alloc_heap_new wr (.cells #[.int .i64 K, .int .i64 A, .int .i64 Sy, .int .i64 D] 48))
              have g0 := cell_regrown z0
              have g1 := cell_regrown z1
              have g2 := cell_regrown z2
              have g3 := cell_regrown z3
              clear z0 z1 z2 z3
              refine wp_region_quiet_below (by kernel_rfl) (by kernel_rfl) ?_
              repeat (quiet_step ((first
                | (go_at_call_of 14 (Value.int IntKind.i64 1); go_must (exact Calls.regrown_of (HB1.out _ _)))
                | (go_at_call_of 14 (Value.int IntKind.i64 2); go_must (exact Calls.regrown_of (HB2.out _ _))))))
              refine wpQuiet_nil ?_
              intro w2 hw'
              obtain ⟨⟨dq, osq⟩, hw''⟩ := hw'
              have B2 : Below w1.heap.size w1 w2 := by rw [hw'']; exact (B.alloc B.size _).trans ((below_regrown _ dq osq).mono (by simp; have := B.size; omega))
              clear hw''
              go_wp2
              exact ⟨⟨k + 1, _, by omega, by go_num, rfl, HL2.out, HS2.out, B2⟩, by simp [intOf]; omega⟩
            · obtain rfl : k = M.pats.length := by omega
              rw [List.take_length] at ES
              have HZ : Hid (S = encS M) := by
                show S = encS M
                rw [ES.out, E3.out, E1.out]; rfl
              clear hP
              go_wp2
              go_ret
              exact ⟨by rw [← HZ.out]; rfl, B1.trans (B.mono B1.size)⟩

end Go.Proofs.Ytaklbnabgcglhaa
