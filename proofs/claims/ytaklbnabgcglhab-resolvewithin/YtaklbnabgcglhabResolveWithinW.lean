/- The walk of the law ResolveWithin: it returns true. -/
import Derived.Test.YtaklbnabgcglhabResI
namespace Go.Proofs.Ytaklbnabgcglhab.resolveWithin
open Go.RowKit Go.PlainAid

set_option maxRecDepth 100000

theorem tgt_minor {k : Ker} {l : List Plc} {name : ByteArray} {t : Tgt} (h : chkFind k l = 0) (ht : tgtOf k l name = some t) : 0 ≤ t.minor := by
  obtain ⟨hk, _, hp⟩ := chkFind_zero h
  have ver : ∀ a b : Int, isVer a b = true → 0 ≤ b := fun a b h => by
    unfold isVer at h
    rw [Bool.and_eq_true] at h
    exact (betw_iff.1 h.2).1
  unfold tgtOf at ht
  split at ht
  · injection ht with ht
    subst ht
    unfold chkKer at hk
    split at hk
    · omega
    · rename_i hv
      exact ver k.major k.minor (by simpa using hv)
  · cases hf : l.find? fun p => p.mod.name == name with
    | none => rw [hf] at ht; simp at ht
    | some p =>
      rw [hf] at ht
      simp at ht
      subst ht
      obtain ⟨h1, _, _⟩ := hp p (List.mem_of_find?_eq_some hf)
      rcases chkMod_cases p.mod with ⟨_, e⟩ | ⟨_, ⟨_, e⟩ | ⟨_, ⟨_, e⟩ | ⟨hv, _⟩⟩⟩
      · omega
      · omega
      · omega
      · exact ver _ _ hv

theorem own_lesser {i : Imp} (h : impOwn i = 0) : impOwn ⟨i.mod, i.name, i.major, 0⟩ = 0 := by
  unfold impOwn at h ⊢
  dsimp only
  cases h1 : (isNm i.mod && isNm i.name)
  · rw [h1, if_pos rfl] at h; omega
  · rw [h1, if_neg (by decide)] at h
    rw [if_neg (by decide)]
    cases h2 : isVer i.major i.minor
    · rw [h2, if_pos rfl] at h; omega
    · unfold isVer at h2 ⊢
      rw [Bool.and_eq_true] at h2
      rw [h2.1, betw_true (by decide) (by decide)]
      rfl

/-- What is found is within: and a lesser version finds the same. -/
theorem within (k : Ker) (l : List Plc) (i : Imp) (h : (findRes k l i).2 = 0) : chkFind k l = 0 ∧ findRes k l ⟨i.mod, i.name, i.major, 0⟩ = ((findRes k l i).1, 0) ∧
    ((i.mod == kernelName) = true ∧ 0 ≤ (findRes k l i).1 ∧ (findRes k l i).1 < 4096 ∨ (i.mod == kernelName) = false ∧ ∃ p, l.find? (fun p => p.mod.name == i.mod) = some p ∧ 0 ≤ p.first ∧ p.first ≤ 15 ∧ p.mod.text.size ≤ 256 ∧ 4096 + p.first * 64 ≤ (findRes k l i).1 ∧ (findRes k l i).1 < 4096 + p.first * 64 + p.mod.text.size) := by
  rcases findRes_cases k l i with ⟨h1, e⟩ | ⟨_, h1, e⟩ | ⟨h1, h2, e⟩
  · rw [e] at h; exact absurd h h1
  · rw [e] at h; exact absurd h h1
  rw [e] at h ⊢
  refine ⟨h1, ?_⟩
  rcases addrOf_cases k l i with ⟨_, e2⟩ | ⟨t, ht, ⟨_, e2⟩ | ⟨_, _, e2⟩ | ⟨g1, g2, ⟨_, e2⟩ | ⟨x, hx, e2⟩⟩⟩
  · rw [e2] at h; exact absurd h (by decide)
  · rw [e2] at h; exact absurd h (by decide)
  · rw [e2] at h; exact absurd h (by decide)
  · rw [e2] at h; exact absurd h (by decide)
  rw [e2]
  have hmin := tgt_minor h1 ht
  constructor
  · rcases findRes_cases k l ⟨i.mod, i.name, i.major, 0⟩ with ⟨h3, _⟩ | ⟨_, h3, _⟩ | ⟨_, _, e3⟩
    · exact absurd h1 h3
    · exact absurd (own_lesser h2) h3
    rw [e3]
    rcases addrOf_cases k l ⟨i.mod, i.name, i.major, 0⟩ with ⟨ht', _⟩ | ⟨t', ht', hc⟩
    · rw [ht] at ht'; cases ht'
    have : t' = t := by rw [ht] at ht'; exact (Option.some.inj ht').symm
    subst this
    rcases hc with ⟨h4, _⟩ | ⟨_, h4, _⟩ | ⟨_, _, ⟨h4, _⟩ | ⟨x', hx', e4⟩⟩
    · exact absurd g1 h4
    · dsimp only at h4; omega
    · dsimp only at h4; rw [hx] at h4; cases h4
    · dsimp only at hx'
      rw [hx] at hx'
      rw [← Option.some.inj hx'] at e4
      exact e4
  · obtain ⟨hk, _, hp⟩ := chkFind_zero h1
    have hxm := List.mem_of_find?_eq_some hx
    unfold tgtOf at ht
    cases hn : i.mod == kernelName
    · refine .inr ⟨rfl, ?_⟩
      rw [hn, if_neg (by decide)] at ht
      cases hf : l.find? fun p => p.mod.name == i.mod with
      | none => rw [hf] at ht; simp at ht
      | some p =>
        rw [hf] at ht
        simp at ht
        subst ht
        obtain ⟨m1, m2, m3⟩ := hp p (List.mem_of_find?_eq_some hf)
        obtain ⟨m4, m5, _⟩ := chkMod_exps m1
        obtain ⟨_, m6, m7⟩ := m4 x hxm
        exact ⟨p, rfl, m2, m3, m5, by dsimp only; omega, by dsimp only; omega⟩
    · refine .inl ⟨rfl, ?_⟩
      rw [hn, if_pos rfl] at ht
      have : t = ⟨k.major, k.minor, 0, k.exps⟩ := (Option.some.inj ht).symm
      subst this
      obtain ⟨_, m6, m7⟩ := (chkKer_zero hk).2 x hxm
      exact ⟨by dsimp only; omega, by dsimp only; omega⟩

theorem none_found (k : Ker) (l : List Plc) (i : Imp) (h : (findRes k l i).2 ≠ 0) : (findRes k l i).1 = 0 := by
  rcases findRes_cases k l i with ⟨_, e⟩ | ⟨_, _, e⟩ | ⟨_, _, e⟩
  · rw [e]
  · rw [e]
  rw [e] at h ⊢
  rcases addrOf_cases k l i with ⟨_, e2⟩ | ⟨t, _, ⟨_, e2⟩ | ⟨_, _, e2⟩ | ⟨_, _, ⟨_, e2⟩ | ⟨x, _, e2⟩⟩⟩
  · rw [e2]
  · rw [e2]
  · rw [e2]
  · rw [e2]
  · rw [e2] at h; exact absurd rfl h

set_option maxHeartbeats 4000000 in
theorem walk (K : Ker) (vk : Value) (l : List PV) (v : Value) (i : Imp) (w : World) (hK : IsKer w.heap.size w vk K) (hf : K.fits) (hrow : IsPlcs w.heap.size w v l) (hfit : ∀ x ∈ l, x.mod.fits) (hi : i.fits) :
    Calls Try.prog 6 #[vk, v, .agg #[.string i.mod, .string i.name, .int .i64 i.major, .int .i64 i.minor]] w fun e w' => e = .returned (.bool true) ∧ Below w.heap.size w w' := by
  have HF : Hid (∀ (j : Imp) W, Below w.heap.size w W → j.fits → Calls Try.prog 16 #[vk, v, .agg #[.string j.mod, .string j.name, .int .i64 j.major, .int .i64 j.minor]] W fun e w' => e = .returned (.tuple #[.int .i64 (findRes K (l.map PV.plc) j).1, .int .i64 (findRes K (l.map PV.plc) j).2]) ∧ Below W.heap.size W w') :=
    fun j W hb hj => find_any K vk l v j W ((hK.below hb).more hb.size) hf ((hrow.below hb).more hb.size) hfit hj
  have HF1 : Hid (∀ W, Below w.heap.size w W → Calls Try.prog 16 #[vk, v, .agg #[.string i.mod, .string i.name, .int .i64 i.major, .int .i64 i.minor]] W fun e w' => e = .returned (.tuple #[.int .i64 (findRes K (l.map PV.plc) i).1, .int .i64 (findRes K (l.map PV.plc) i).2]) ∧ Below W.heap.size W w') := fun W hb => HF.out i W hb hi
  have HF2 : Hid (∀ W, Below w.heap.size w W → Calls Try.prog 16 #[vk, v, .agg #[.string i.mod, .string i.name, .int .i64 i.major, .int .i64 0]] W fun e w' => e = .returned (.tuple #[.int .i64 (findRes K (l.map PV.plc) ⟨i.mod, i.name, i.major, 0⟩).1, .int .i64 (findRes K (l.map PV.plc) ⟨i.mod, i.name, i.major, 0⟩).2]) ∧ Below W.heap.size W w') := fun W hb => HF.out ⟨i.mod, i.name, i.major, 0⟩ W hb hi
  have hw := within K (l.map PV.plc) i
  have hn := none_found K (l.map PV.plc) i
  obtain ⟨vke, rfl, hE⟩ := hK
  obtain ⟨pe, ke, rfl, _, _⟩ := hE
  obtain ⟨⟨a, cap, rfl, _, hrow⟩, hat⟩ := hrow
  clear HF hf hfit hi
  generalize findRes K (l.map PV.plc) i = R at *
  generalize findRes K (l.map PV.plc) ⟨i.mod, i.name, i.major, 0⟩ = R2 at *
  obtain ⟨n, e⟩ := R
  obtain ⟨ma, mi, es⟩ := K
  obtain ⟨im, inm, ia, ib⟩ := i
  dsimp only at *
  generalize es.length = le at *
  have HW2 : Hid (Below w.heap.size w ((w.alloc (.cells #[.int .i64 ma, .int .i64 mi, .slice pe le ke] 37)).alloc (.cells #[.string im, .string inm, .int .i64 ia, .int .i64 ib] 40))) := ((Below.refl _ _).alloc (Nat.le_refl _) _).alloc (by simp) _
  have HK2 : Hid (CellsAt ((w.alloc (.cells #[.int .i64 ma, .int .i64 mi, .slice pe le ke] 37)).alloc (.cells #[.string im, .string inm, .int .i64 ia, .int .i64 ib] 40)) w.heap.size 37 #[.int .i64 ma, .int .i64 mi, .slice pe le ke]) := (CellsAt.new w 37 #[.int .i64 ma, .int .i64 mi, .slice pe le ke]).kept (World.grownBy_alloc _ _ none) (by simp)
  have HC2 : Hid (CellsAt ((w.alloc (.cells #[.int .i64 ma, .int .i64 mi, .slice pe le ke] 37)).alloc (.cells #[.string im, .string inm, .int .i64 ia, .int .i64 ib] 40)) (w.heap.size + 1) 40 #[.string im, .string inm, .int .i64 ia, .int .i64 ib]) := by
    have := CellsAt.new (w.alloc (.cells #[.int .i64 ma, .int .i64 mi, .slice pe le ke] 37)) 40 #[.string im, .string inm, .int .i64 ia, .int .i64 ib]
    rw [World.size_alloc] at this
    exact this
  go_enter Try.func6, Try.ntmps6
  go_wp2_with fail
  refine (HF1.out _ HW2.out).mono ?_
  rintro _ w3 ⟨rfl, b3⟩
  have C3 := HC2.out.below b3 (by simp)
  have K3 := HK2.out.below b3 (by simp; omega)
  have B3 := HW2.out.trans (b3.mono HW2.out.size)
  clear HC2 HK2 HW2 b3
  go_wp2_with fail
  refine (resolveBegun_any _).mono ?_
  rintro _ w4 ⟨rfl, b4⟩
  have C4 := C3.below b4 C3.lt
  have K4 := K3.below b4 K3.lt
  have B4 := B3.trans (b4.mono B3.size)
  clear C3 K3 B3 b4
  by_cases he : e = 0
  · subst he
    obtain ⟨h1, h2, hcase⟩ := hw rfl
    subst h2
    dsimp only at HF2 hcase
    have c0 := C4.cell 0
    have c1 := C4.cell 1
    have c2 := C4.cell 2
    have c3 := C4.cell 3
    have d0 := K4.cell 0
    have d1 := K4.cell 1
    have d2 := K4.cell 2
    have zk := K4.lt
    simp at c0 c1 c2 c3 d0 d1 d2
    have C5 : CellsAt (w4.alloc (.cells #[.string im, .string inm, .int .i64 ia, .int .i64 0] 40)) (w.heap.size + 1) 40 #[.string im, .string inm, .int .i64 ia, .int .i64 ib] := C4.kept (World.grownBy_alloc _ _ none) (by simp)
    have HC5 : Hid (CellsAt (w4.alloc (.cells #[.string im, .string inm, .int .i64 ia, .int .i64 0] 40)) (w.heap.size + 1) 40 #[.string im, .string inm, .int .i64 ia, .int .i64 ib]) := C5
    have HB5 : Hid (Below w.heap.size w (w4.alloc (.cells #[.string im, .string inm, .int .i64 ia, .int .i64 0] 40))) := B4.alloc B4.size _
    clear C5 hw hn
    have hcase' : Hid _ := hcase
    clear hcase
    go_wp2_with fail
    refine (HF2.out _ HB5.out).mono ?_
    rintro _ w6 ⟨rfl, b6⟩
    have C6 := HC5.out.below b6 HC5.out.lt
    have B6 := HB5.out.trans (b6.mono HB5.out.size)
    clear b6 HC5 HB5 c0 c1 c2 c3 d0 d1 d2 C4 K4 HF1 HF2
    have c0 := C6.cell 0
    simp at c0
    rcases hcase'.out with ⟨g1, g2, g3⟩ | ⟨g1, p, g2, g3, g4, g5, g6, g7⟩
    · rw [← kern_form] at g1
      clear hcase'
      go_wp2
      go_ret
      exact ⟨rfl, B6⟩
    · rw [← kern_form] at g1
      clear hcase'
      rw [List.find?_map] at g2
      obtain ⟨x, hx, rfl⟩ := Option.map_eq_some_iff.1 g2
      have HX : Hid (l.find? (fun x => x.mod.name == im) = some x) := hx
      clear g2 hx
      dsimp only [PV.plc] at g3 g4 g5 g6 g7
      go_wp2_with fail
      go_loopw [12] (fun i wr => ∃ k : Nat, k ≤ l.length ∧ i = .int .i64 k ∧ Hid ((l.drop k).find? (fun x => x.mod.name == im) = some x) ∧ Below w6.heap.size w6 wr) (fun i _ => l.length - (intOf i).toNat)
      case atStart => exact ⟨0, Nat.zero_le _, rfl, HX, Below.refl _ _⟩
      case round =>
        obtain ⟨k, hk, rfl, HD, B⟩ := hrel
        have B' : Below w.heap.size w wr := B6.trans (B.mono B6.size)
        have c0' := (B.cell (p := ⟨w.heap.size + 1, 0, none⟩) C6.lt).trans c0
        by_cases hlt : k < l.length
        · obtain ⟨y, hy⟩ : ∃ y, l[k]? = some y := ⟨_, List.getElem?_eq_getElem hlt⟩
          have hD := HD.out
          rw [drop_at hy, List.find?_cons] at hD
          rcases hrow with h | ⟨b, off, rfl, hbn, hcells⟩
          · subst h; simp at hlt
          have y0 := (B'.cell (p := ⟨b, off + k * 8 + 0, none⟩) hbn).trans (hcells k _ hy 0 (by omega))
          have y3 := (B'.cell (p := ⟨b, off + k * 8 + 3, none⟩) hbn).trans (hcells k _ hy 3 (by omega))
          have y7 := (B'.cell (p := ⟨b, off + k * 8 + 7, none⟩) hbn).trans (hcells k _ hy 7 (by omega))
          dsimp only [PV.cell] at y0 y3 y7
          rw [Nat.add_zero] at y0
          clear hcells hy HD HX c0
          cases hq : y.mod.name == im
          · rw [hq] at hD
            have HD' : Hid ((l.drop (k + 1)).find? (fun x => x.mod.name == im) = some x) := hD
            clear hD
            rw [← toList_beq2] at hq
            go_wp2
            go_quiet (fail)
            all_goals go_wp2
            exact ⟨⟨k + 1, by omega, by go_num, HD', below_drewN B _⟩, by simp [intOf]; omega⟩
          · rw [hq] at hD
            have hyx : y = x := Option.some.inj hD
            subst hyx
            clear hD
            rw [← toList_beq2] at hq
            have z1 : decide (4096 + y.first * 64 ≤ n) = true := decide_eq_true g6
            have z2 : decide (n < 4096 + y.first * 64 + y.mod.text.size) = true := decide_eq_true g7
            go_wp2
            go_quiet (fail)
            all_goals go_wp2
            go_ret
            exact ⟨rfl, below_drewN B' _⟩
        · obtain rfl : k = l.length := by omega
          have := HD.out
          rw [List.drop_length] at this
          cases this
  · have hn0 := hn he
    subst hn0
    have he' : (e != 0) = true := by simpa using he
    clear he hw hn
    go_wp2
    go_ret
    exact ⟨rfl, B4⟩

end Go.Proofs.Ytaklbnabgcglhab.resolveWithin
