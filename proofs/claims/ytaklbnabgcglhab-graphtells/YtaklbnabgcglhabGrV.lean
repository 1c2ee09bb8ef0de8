/- The contract of graph.rising. -/
import Derived.Test.YtaklbnabgcglhabGrR
namespace Go.Proofs.Ytaklbnabgcglhab
open Go.RowKit Go.PlainAid

set_option maxRecDepth 100000

theorem addr_add (g j : Nat) : (⟨g, 0, none⟩ : Addr).add j = ⟨g, j, none⟩ := by unfold Addr.add; split <;> simp_all

set_option maxHeartbeats 4000000 in
theorem rising_any (l : List PV) (v : Value) (w : World) (hrow : IsPlcs w.heap.size w v l) (h8 : l.length ≤ 8) :
    Calls Try.prog 64 #[v] w fun e w' => (∃ r rs, e = .returned r ∧ RowOf 7 PV.cell w'.heap.size w' r rs ∧ rs.Perm l ∧ rs.Pairwise UpName) ∧ Below w.heap.size w w' := by
  have hat := hrow.2
  obtain ⟨⟨a, cap, rfl, hmax, hrow⟩, _⟩ := hrow
  obtain ⟨ii, hii, hz0, hz1, hz2⟩ := infoMod_parts
  go_enter Try.func64, Try.ntmps64
  go_wp2_with fail
  go_loopw [3, 8] (fun f i wr => ∃ (k : Nat), k ≤ l.length ∧ i = .int .i64 k ∧ wr.ownsRow w.heap.size 44 7 f k ((l.take k).flatMap modE) ∧ Below w.heap.size w wr) (fun _ i _ => l.length - (intOf i).toNat)
  case atStart => exact ⟨0, Nat.zero_le _, rfl, ⟨rfl, .inl ⟨rfl, rfl⟩⟩, Below.refl _ _⟩
  case round =>
    obtain ⟨k, hk, rfl, hown, B⟩ := hrel
    by_cases hlt : k < l.length
    · obtain ⟨av, kv, rfl⟩ := own_form hown
      obtain ⟨x, hx⟩ : ∃ x, l[k]? = some x := ⟨_, List.getElem?_eq_getElem hlt⟩
      rcases hrow with h | ⟨b, off, rfl, hbn, hcells⟩
      · subst h; simp at hlt
      have htk : l.take (k + 1) = l.take k ++ [x] := by rw [List.take_add_one, hx]; rfl
      have HROW : Hid (∀ (W : World) (u : Value), W.ownsRow w.heap.size 44 7 u (k + 1) ((l.take k).flatMap modE ++ modE x) → W.ownsRow w.heap.size 44 7 u (k + 1) ((l.take (k + 1)).flatMap modE)) := fun W u h => by
        rw [htk, List.flatMap_append]
        simpa using h
      obtain ⟨⟨pe, ke, e4, _⟩, ⟨pi, ki, e5, _⟩, ⟨pp, kp, e6, _⟩⟩ := hat x (List.mem_of_getElem? hx)
      obtain ⟨⟨N, ma, mi, T, es, is, ps⟩, ve, vi, vp, fi⟩ := x
      dsimp only at e4 e5 e6
      subst e4 e5 e6
      have c0 := (B.cell (p := ⟨b, off + k * 8 + 0, none⟩) hbn).trans (hcells k _ hx 0 (by omega))
      have c1 := (B.cell (p := ⟨b, off + k * 8 + 1, none⟩) hbn).trans (hcells k _ hx 1 (by omega))
      have c2 := (B.cell (p := ⟨b, off + k * 8 + 2, none⟩) hbn).trans (hcells k _ hx 2 (by omega))
      have c3 := (B.cell (p := ⟨b, off + k * 8 + 3, none⟩) hbn).trans (hcells k _ hx 3 (by omega))
      have c4 := (B.cell (p := ⟨b, off + k * 8 + 4, none⟩) hbn).trans (hcells k _ hx 4 (by omega))
      have c5 := (B.cell (p := ⟨b, off + k * 8 + 5, none⟩) hbn).trans (hcells k _ hx 5 (by omega))
      have c6 := (B.cell (p := ⟨b, off + k * 8 + 6, none⟩) hbn).trans (hcells k _ hx 6 (by omega))
      have c7 := (B.cell (p := ⟨b, off + k * 8 + 7, none⟩) hbn).trans (hcells k _ hx 7 (by omega))
      dsimp only [PV.cell] at c0 c1 c2 c3 c4 c5 c6 c7
      rw [Nat.add_zero] at c0
      dsimp only [modE, slV] at HROW
      clear hcells hx hat htk
      generalize es.length = le at *
      generalize is.length = li at *
      generalize ps.length = lp at *
      generalize (l.take k).flatMap modE = acc at *
      have O7 := hown.alloc (.cells #[.string N, .int .i64 ma, .int .i64 mi, .string T, .slice pe le ke, .slice pi li ki, .slice pp lp kp, .int .i64 fi] 56)
      have B7 := B.alloc B.size (.cells #[.string N, .int .i64 ma, .int .i64 mi, .string T, .slice pe le ke, .slice pi li ki, .slice pp lp kp, .int .i64 fi] 56)
      have HB7 : Hid (Below w.heap.size w (wr.alloc (.cells #[.string N, .int .i64 ma, .int .i64 mi, .string T, .slice pe le ke, .slice pi li ki, .slice pp lp kp, .int .i64 fi] 56))) := B7
      have HSZ : Hid (w.heap.size ≤ wr.heap.size) := B.size
      clear hown B7
      go_wp2_with (at_builtin; refine wpList_append_lies _ rfl _ _ _ rfl w.heap.size 44 ii _ 7 120 Try.underlying96 hii hz0 hz1 hz2 rfl (by omega) (.slice av k kv) k acc rfl (O7.alloc _) ⟨wr.heap.size + 1, 0, none⟩ 1 1 [.string N, .int .i64 ma, .int .i64 mi, .string T, .slice pe le ke, .slice pi li ki, .slice pp lp kp] rfl rfl (World.news_of_block (cs := #[.string N, .int .i64 ma, .int .i64 mi, .string T, .slice pe le ke, .slice pi li ki, .slice pp lp kp]) (t := 44) (fr := (0, 0)) (by have := CellsAt.new (wr.alloc (.cells #[.string N, .int .i64 ma, .int .i64 mi, .string T, .slice pe le ke, .slice pi li ki, .slice pp lp kp, .int .i64 fi] 56)) 44 #[.string N, .int .i64 ma, .int .i64 mi, .string T, .slice pe le ke, .slice pi li ki, .slice pp lp kp]; rw [World.size_alloc] at this; exact this)) (by simp [Value.oneCell']) (by omega) (by unfold maxLen; omega) (by omega) (by have := HSZ.out; simp; omega) (wr.heap.size + 2) (by simp) ?_; intro g gc w8 hown8 hgrow hat hltg)
      have BB := HB7.out.alloc HB7.out.size (.cells #[.string N, .int .i64 ma, .int .i64 mi, .string T, .slice pe le ke, .slice pi li ki, .slice pp lp kp] 44)
      exact ⟨⟨k + 1, by omega, by go_num, HROW.out _ _ hown8, BB.grown hgrow BB.size (fun j hj => own_block O7 j hj)⟩, by simp [intOf]; omega⟩
    · obtain rfl : k = l.length := by omega
      rw [List.take_length] at hown
      have HO := hown
      clear hrow
      rcases hown.2 with ⟨rfl, hn⟩ | ⟨g, cap', cur, rfl, hg, hb, hcap, hm, hsz, htk⟩
      · obtain rfl : l = [] := List.length_eq_zero_iff.1 hn
        clear hown HO hat
        go_wp2_with (go_at_call 94; refine (sortNone_any _ _ _ _).mono ?_; rintro e w' ⟨rfl, rfl⟩)
        go_ret
        exact ⟨⟨_, [], rfl, ⟨none, 0, rfl, by simp, .inl rfl⟩, .nil, .nil⟩, B⟩
      · have hgl : g < wr.heap.size := (Array.getElem?_eq_some_iff.1 hb).1
        have HS : Hid (Calls Try.prog 94 #[.slice (some ⟨g, 0, none⟩) l.length cap', .func (.func 95) #[] #[]] wr fun e w' => e = .returned (.tuple #[]) ∧ ∃ rs : List PV, rs.Perm l ∧ rs.Pairwise UpName ∧ Below g wr w' ∧ ∀ (j : Nat) (x : PV), rs[j]? = some x → ∀ i, i < 7 → w'.cell? ⟨g, 0 + j * 7 + i, none⟩ = (modE x)[i]?) := by
          refine sortMods_any l g cap' wr h8 hgl (fun j x hj i hi => ⟨?_, CellsAt.frozen (t := 44) (cs := cur) hb _⟩)
          have h1 := flat_at (C := modE) (sz := 7) (fun _ => rfl) l j x i hj hi
          have h2 : (modE x)[i]? = some (modE x)[i]! := by
            rw [List.getElem?_eq_getElem (by show i < 7; exact hi), List.getElem!_eq_getElem?_getD, List.getElem?_eq_getElem (by show i < 7; exact hi)]
            rfl
          rw [h2] at h1 ⊢
          have := HO.cells (g := g) rfl (j * 7 + i) _ h1
          rw [addr_add] at this
          rw [Nat.zero_add]
          exact this
        have HSZ : Hid (w.heap.size ≤ g) := hg
        have HAT : Hid (∀ x ∈ l, PlcAt w.heap.size w x) := hat
        clear hb hcap hm hsz htk hown HO hat
        go_wp2_with fail
        refine HS.out.mono ?_
        rintro e w5 ⟨rfl, rs, hp, hup, b5, hcc⟩
        have HF : Hid (rs.Perm l ∧ rs.Pairwise UpName ∧ Below g wr w5 ∧ ∀ (j : Nat) (x : PV), rs[j]? = some x → ∀ i, i < 7 → w5.cell? ⟨g, 0 + j * 7 + i, none⟩ = (modE x)[i]?) := ⟨hp, hup, b5, hcc⟩
        clear hp hup b5 hcc HS
        go_wp2
        go_ret
        obtain ⟨hp, hup, b5, hcc⟩ := HF.out
        refine ⟨⟨_, rs, rfl, ⟨_, cap', by rw [hp.length_eq]; rfl, by rw [hp.length_eq]; omega, .inr ⟨g, 0, rfl, Nat.lt_of_lt_of_le hgl b5.size, fun j x hj i hi => ?_⟩⟩, hp, hup⟩, B.trans (b5.mono HSZ.out)⟩
        rw [hcc j x hj i hi]
        exact modE_at (HAT.out x (hp.mem_iff.1 (List.mem_of_getElem? hj))) i hi

end Go.Proofs.Ytaklbnabgcglhab
