/- The contract of graph.ordered. -/
import Derived.Test.YtaklbnabgcglhabGrO1
import Derived.Test.YtaklbnabgcglhabGrQ
import Derived.Test.YtaklbnabgcglhabOrd
namespace Go.Proofs.Ytaklbnabgcglhab
open Go.RowKit Go.PlainAid Go.Maps Go.WideMaps

set_option maxRecDepth 100000

def ordRes (Rs : List Mod) : List ByteArray × Int := match orderFrom Rs Rs.length [] with | none => ([], 4) | some c => (c, 0)
theorem ordRes_none {Rs : List Mod} (h : orderFrom Rs Rs.length [] = none) : ordRes Rs = ([], 4) := by unfold ordRes; rw [h]
theorem ordRes_some {Rs : List Mod} {c : List ByteArray} (h : orderFrom Rs Rs.length [] = some c) : ordRes Rs = (c, 0) := by unfold ordRes; rw [h]

def CapOk (v : Value) : Prop := ∀ a n c, v = .slice a n c → n ≤ c ∧ c ≤ 9223372036854775807
theorem capNil : CapOk (.slice none 0 0) := fun a n c h => by
  injection h with _ h2 h3
  omega
theorem own_cap {W : World} {base : Nat} {e : TypeId} {size : Nat} {v : Value} {n : Nat} {xs : List Value} (h : W.ownsRow base e size v n xs) : CapOk v := by
  rcases h.2 with ⟨rfl, _⟩ | ⟨g, cap, cur, rfl, _, _, hcap, hm, _⟩
  · exact capNil
  · intro a m c he
    injection he with _ h2 h3
    unfold maxLen at hm
    omega

theorem infoStr : (Try.prog.info? 9).map (fun i => (i.zero, i.size, i.bytes)) = some (some (.string ⟨#[]⟩), 1, 16) := by kernel_rfl
theorem infoStr_parts : ∃ i, Try.prog.info? 9 = some i ∧ i.zero = some (.string ⟨#[]⟩) ∧ i.size = 1 ∧ i.bytes = 16 := by
  have h := infoStr
  cases hi : Try.prog.info? 9 with
  | none => rw [hi] at h; cases h
  | some i =>
    rw [hi] at h
    simp at h
    exact ⟨i, rfl, h.1, h.2.1, h.2.2⟩

theorem OrdAt.start (rs : List PV) (r : Value) (w : World) (hrow : RowOf 7 PV.cell w.heap.size w r rs) (hat : ∀ x ∈ rs, PlcAt w.heap.size w x) (hfit : ∀ x ∈ rs, x.mod.fits) :
    OrdAt ((((w.alloc (.cells #[r] 96)).alloc (.map #[] 0)).alloc (.cells #[.map (some (w.heap.size + 1))] 125)).alloc (.cells #[.func (.func 89) #[] #[.pointer (some ⟨w.heap.size + 1 + 1, 0, none⟩)]] 122)) w.heap.size 0 (.map []) r rs [] ∧
    Below w.heap.size w ((((w.alloc (.cells #[r] 96)).alloc (.map #[] 0)).alloc (.cells #[.map (some (w.heap.size + 1))] 125)).alloc (.cells #[.func (.func 89) #[] #[.pointer (some ⟨w.heap.size + 1 + 1, 0, none⟩)]] 122)) := by
  have hB : Below w.heap.size w ((((w.alloc (.cells #[r] 96)).alloc (.map #[] 0)).alloc (.cells #[.map (some (w.heap.size + 1))] 125)).alloc (.cells #[.func (.func 89) #[] #[.pointer (some ⟨w.heap.size + 1 + 1, 0, none⟩)]] 122)) := ((((Below.refl _ _).alloc (Nat.le_refl _) _).alloc (by simp) _).alloc (by simp; omega) _).alloc (by simp; omega) _
  have k0 := ((((CellsAt.new w 96 #[r]).kept (World.grownBy_alloc _ (.map #[] 0) none) (by simp)).kept (World.grownBy_alloc _ (.cells #[.map (some (w.heap.size + 1))] 125) none) (by simp)).kept (World.grownBy_alloc _ (.cells #[.func (.func 89) #[] #[.pointer (some ⟨w.heap.size + 1 + 1, 0, none⟩)]] 122) none) (by simp)).cell 0
  have k1 := (((World.ownsMap_made (w.alloc (.cells #[r] 96)) Try.prog 9 (plainElem (H := Unit) Try.prog 3)).kept (World.grownBy_alloc _ (.cells #[.map (some (w.heap.size + 1))] 125) none) (by simp)).kept (World.grownBy_alloc _ (.cells #[.func (.func 89) #[] #[.pointer (some ⟨w.heap.size + 1 + 1, 0, none⟩)]] 122) none) (by simp))
  have k2 := ((CellsAt.new ((w.alloc (.cells #[r] 96)).alloc (.map #[] 0)) 125 #[.map (some (w.heap.size + 1))]).kept (World.grownBy_alloc _ (.cells #[.func (.func 89) #[] #[.pointer (some ⟨w.heap.size + 1 + 1, 0, none⟩)]] 122) none) (by simp)).cell 0
  have k3 := (CellsAt.new (((w.alloc (.cells #[r] 96)).alloc (.map #[] 0)).alloc (.cells #[.map (some (w.heap.size + 1))] 125)) 122 #[.func (.func 89) #[] #[.pointer (some ⟨w.heap.size + 1 + 1, 0, none⟩)]]).cell 0
  simp only [World.size_alloc] at k0 k1 k2 k3
  exact ⟨⟨by simp, k0, k1, k2, k3, HasNames.none, hrow.below hB, fun x hx => (hat x hx).below hB, hfit⟩, hB⟩

set_option maxHeartbeats 4000000 in
theorem ordered_any (rs : List PV) (r : Value) (w : World) (hrow : RowOf 7 PV.cell w.heap.size w r rs) (hat : ∀ x ∈ rs, PlcAt w.heap.size w x) (hfit : ∀ x ∈ rs, x.mod.fits) (h8 : rs.length ≤ 8) :
    Calls Try.prog 63 #[r] w fun e w' => (∃ v, e = .returned (.tuple #[v, .int .i64 (ordRes (rs.map (·.mod))).2]) ∧ RowOf 1 strCell w'.heap.size w' v (ordRes (rs.map (·.mod))).1 ∧ CapOk v) ∧ Below w.heap.size w w' := by
  have HS := OrdAt.start rs r w hrow hat hfit
  have HSH : Hid (OrdAt ((((w.alloc (.cells #[r] 96)).alloc (.map #[] 0)).alloc (.cells #[.map (some (w.heap.size + 1))] 125)).alloc (.cells #[.func (.func 89) #[] #[.pointer (some ⟨w.heap.size + 1 + 1, 0, none⟩)]] 122)) w.heap.size 0 (.map []) r rs []) := HS.1
  have HSB : Hid (Below w.heap.size w ((((w.alloc (.cells #[r] 96)).alloc (.map #[] 0)).alloc (.cells #[.map (some (w.heap.size + 1))] 125)).alloc (.cells #[.func (.func 89) #[] #[.pointer (some ⟨w.heap.size + 1 + 1, 0, none⟩)]] 122))) := HS.2
  have HN : Hid (orderFrom (rs.map (·.mod)) rs.length [] = none → ordRes (rs.map (·.mod)) = ([], 4)) := fun h => ordRes_none (by rw [List.length_map]; exact h)
  have HY : Hid (∀ c, orderFrom (rs.map (·.mod)) rs.length [] = some c → ordRes (rs.map (·.mod)) = (c, 0)) := fun c h => ordRes_some (by rw [List.length_map]; exact h)
  have HST : Hid (∀ n met, orderFrom (rs.map (·.mod)) (n + 1) met = match (rs.map (·.mod)).find? (mayB (rs.map (·.mod)) met) with | none => none | some m => orderFrom (rs.map (·.mod)) n (met ++ [m.name])) := fun n met => rfl
  have HS0 : Hid (∀ met, orderFrom (rs.map (·.mod)) 0 met = some met) := fun met => rfl
  clear HS hat hfit
  generalize ordRes (rs.map (·.mod)) = OR at *
  obtain ⟨ra, rc, rfl, hm, hcells⟩ := hrow
  have hmm := @run_makeMap Try.prog
  obtain ⟨ii, hii, hz0, hz1, hz2⟩ := infoStr_parts
  go_enter Try.func63, Try.ntmps63
  go_wp2_with fail
  go_loopw [7, 14] (fun f i wr => ∃ (k : Nat) (met : List ByteArray) (D : DataW Unit), k ≤ rs.length ∧ i = .int .i64 k ∧ Hid (met.length = k ∧ orderFrom (rs.map (·.mod)) rs.length [] = orderFrom (rs.map (·.mod)) (rs.length - k) met) ∧ OrdAt wr w.heap.size k D (.slice ra rs.length rc) rs met ∧ wr.ownsRow (w.heap.size + 4) 9 1 f k (met.flatMap strC) ∧ Below w.heap.size w wr) (fun _ i _ => rs.length - (intOf i).toNat)
  case atStart => exact ⟨0, [], .map [], Nat.zero_le _, rfl, ⟨rfl, rfl⟩, HSH.out, ⟨rfl, .inl ⟨rfl, rfl⟩⟩, HSB.out⟩
  case round =>
    obtain ⟨k, met, D, hk, rfl, HM, hO, hown, B⟩ := hrel
    clear HSH HSB
    have c0 := hO.c0
    have l0 : w.heap.size < wr.heap.size := by have := hO.lt; omega
    have HO : Hid (OrdAt wr w.heap.size k D (.slice ra rs.length rc) rs met) := hO
    clear hO
    obtain ⟨av, kv, rfl⟩ := own_form hown
    by_cases hlt : k < rs.length
    · have HIX : Hid (Calls Try.prog 93 #[.slice ra rs.length rc, .func (.func 90) #[] #[.pointer (some ⟨w.heap.size + 1 + 1 + 1, 0, none⟩), .pointer (some ⟨w.heap.size, 0, none⟩)]] wr fun e w' => e = .returned (.int .i64 (ixFrom (fun x : PV => mayB (rs.map (·.mod)) met x.mod) 0 rs)) ∧ Below wr.heap.size wr w') :=
        ixMod_any rs _ 90 _ _ (fun w x => enters_of Try.func90 (by kernel_rfl) rfl _ w) _ wr HO.out.rowW (fun x hx W' hb' => ordered2_any x W' (HO.out.below hb') hx)
      have hix := ix_find (fun x : PV => mayB (rs.map (·.mod)) met x.mod) rs 0
      generalize hixv : ixFrom (fun x : PV => mayB (rs.map (·.mod)) met x.mod) 0 rs = ix at *
      clear hcells
      go_wp2_with fail
      refine HIX.out.mono ?_
      rintro e w2 ⟨rfl, b2⟩
      have HO2 : Hid (OrdAt w2 w.heap.size k D (.slice ra rs.length rc) rs met) := HO.out.below b2
      have own2 := own_below hown b2
      have B2 := B.trans (b2.mono B.size)
      clear HIX HO hown b2 c0 l0
      clear hixv
      rcases hix with ⟨h1, rfl⟩ | ⟨j, x, h1, h2, h3⟩
      · have HE : Hid (OR = ([], 4)) := HN.out (by
          rw [HM.out.2, show rs.length - k = (rs.length - k - 1) + 1 by omega, HST.out, List.find?_map, show ((mayB (rs.map (·.mod)) met) ∘ fun x : PV => x.mod) = fun x : PV => mayB (rs.map (·.mod)) met x.mod from rfl, h1]
          rfl)
        clear h1
        go_wp2
        go_ret2
        exact ⟨⟨_, by rw [HE.out]; rfl, by rw [HE.out]; exact ⟨none, 0, rfl, by simp, .inl rfl⟩, capNil⟩, B2⟩
      · have HE : Hid (orderFrom (rs.map (·.mod)) rs.length [] = orderFrom (rs.map (·.mod)) (rs.length - (k + 1)) (met ++ [x.mod.name])) := by
          show orderFrom (rs.map (·.mod)) rs.length [] = _
          rw [HM.out.2, show rs.length - k = (rs.length - (k + 1)) + 1 by omega, HST.out, List.find?_map, show ((mayB (rs.map (·.mod)) met) ∘ fun x : PV => x.mod) = fun x : PV => mayB (rs.map (·.mod)) met x.mod from rfl, h1]
          rfl
        rw [Nat.zero_add] at h3
        subst h3
        have hj : j < rs.length := (List.getElem?_eq_some_iff.1 h2).1
        have hO2 := HO2.out
        obtain ⟨ra', rc', ee, _, hcl⟩ := hO2.row
        injection ee with e1 e2 e3
        subst e1 e3
        rcases hcl with h | ⟨b, off, rfl, hbn, hcells⟩
        · subst h; simp at hj
        have cn := hcells j x h2 0 (by omega)
        dsimp only [PV.cell] at cn
        have hn : x.mod.name.size ≤ 9223372036854775807 := (hO2.fit x (List.mem_of_getElem? h2)).1
        have hkey : keyOf Try.prog 9 (.string x.mod.name) = some (.string x.mod.name.data.toList) := keyOf_string_mk Try.underlying9 hn
        have cm := hO2.cm
        have c0 := hO2.c0
        have lm : w.heap.size + 1 + 1 < w2.heap.size := by have := hO2.lt; omega
        have l0 : w.heap.size < w2.heap.size := by have := hO2.lt; omega
        have hbn2 : b < w2.heap.size := by omega
        have hown := hO2.own
        have HML : Hid (met.length = k) := HM.out.1
        clear hcells h1 h2 hO2 HM HST HN e2 hmm
        obtain ⟨⟨N, ma, mi, T, es, is, ps⟩, ve, vi, vp, fi⟩ := x
        dsimp only at cn hn hkey HE
        rw [Nat.add_zero] at cn
        go_wp2_with fail
        refine wp_region_noPanic ?_
        refine wp_region_L (S := fun w' => w'.cell? ⟨w.heap.size + 1 + 1, 0, none⟩ = some (.map (some (w.heap.size + 1))) ∧ w'.cell? ⟨w.heap.size, 0, none⟩ = some (.slice (some ⟨b, off, none⟩) rs.length rc) ∧ w'.cell? ⟨b, off + j * 7, none⟩ = some (.string N)) (x := 7) (by kernel_rfl) ?_
        have hS0 : w2.drew.cell? ⟨w.heap.size + 1 + 1, 0, none⟩ = some (.map (some (w.heap.size + 1))) ∧ w2.drew.cell? ⟨w.heap.size, 0, none⟩ = some (.slice (some ⟨b, off, none⟩) rs.length rc) ∧ w2.drew.cell? ⟨b, off + j * 7, none⟩ = some (.string N) := ⟨cm, c0, cn⟩
        refine wpL_take 0 21 (.map (some (w.heap.size + 1))) rfl (by kernel_rfl) (fun _ _ _ h => h) hS0 rfl rfl (fun w' hSw => by (try dsimp only at hSw); go_simp) ?_
        simp only [List.setIfInBounds_toArray, List.set_cons_zero, List.set_cons_succ]
        refine wpL_take 1 22 (.slice (some ⟨b, off, none⟩) rs.length rc) rfl (by kernel_rfl) (fun _ _ _ h => h) hS0 rfl rfl (fun w' hSw => by (try dsimp only at hSw); go_simp) ?_
        simp only [List.setIfInBounds_toArray, List.set_cons_zero, List.set_cons_succ]
        refine wpL_take 2 23 (.int .i64 j) rfl (by kernel_rfl) (fun _ _ _ h => h) hS0 rfl rfl (fun w' hSw => by (try dsimp only at hSw); go_simp) ?_
        simp only [List.setIfInBounds_toArray, List.set_cons_zero, List.set_cons_succ]
        refine wpL_take 3 24 (.pointer (some ⟨b, off + j * 7, none⟩)) rfl (by kernel_rfl) (fun _ _ _ h => h) hS0 rfl rfl (fun w' hSw => by (try dsimp only at hSw); go_simp) ?_
        simp only [List.setIfInBounds_toArray, List.set_cons_zero, List.set_cons_succ]
        refine wpL_take 4 25 (.pointer (some ⟨b, off + j * 7, none⟩)) rfl (by kernel_rfl) (fun _ _ _ h => h) hS0 rfl rfl (fun w' hSw => by (try dsimp only at hSw); go_simp) ?_
        simp only [List.setIfInBounds_toArray, List.set_cons_zero, List.set_cons_succ]
        refine wpL_take 5 26 (.string N) rfl (by kernel_rfl) (fun _ _ _ h => h) hS0 rfl rfl (fun w' hSw => by (try dsimp only at hSw); go_simp) ?_
        simp only [List.setIfInBounds_toArray, List.set_cons_zero, List.set_cons_succ]
        refine wpL_take 6 27 (.int .i64 j) rfl (by kernel_rfl) (fun _ _ _ h => h) hS0 rfl rfl (fun w' hSw => by (try dsimp only at hSw); go_simp) ?_
        simp only [List.setIfInBounds_toArray, List.set_cons_zero, List.set_cons_succ]
        refine wpL_last (x := 7) rfl (by kernel_rfl) (by kernel_rfl) (fun K hK => ?_)
        obtain ⟨w3, hrun, hown3, hg3⟩ := hown.drew.update lawS Try.underlying125 (by unfold maxLen; omega) hkey (plainElem_int Try.underlying3 (WalkArith.wf_i64 (n := (j : Int)) (by omega)))
        go_simp
        refine hK.out _ _ ?_
        refine NoPanic.normal ?_
        have hOd : OrdAt w2.drew w.heap.size k D (.slice (some ⟨b, off, none⟩) rs.length rc) rs met := HO2.out.below ((Below.refl _ _).drew)
        have HO3 : Hid (OrdAt w3 w.heap.size (k + 1) (D.put (.string N.data.toList) (.lit (.int .i64 j))) (.slice (some ⟨b, off, none⟩) rs.length rc) rs (met ++ [N])) := hOd.put hg3 hown3 (HO2.out.has.put HO2.out.own.isMap N _)
        have c03 := HO3.out.c0
        have l03 : w.heap.size < w3.heap.size := by have := HO3.out.lt; omega
        have BB : Below w.heap.size w2 w3 := ((Below.refl _ _).drew).grown hg3 (by show w.heap.size ≤ w2.heap.size; omega) (fun i hi => by injection hi with hi; omega)
        have cn3 := (BB.cell (p := ⟨b, off + j * 7, none⟩) hbn).trans cn
        have B3 := B2.trans BB
        have own3 := own2.drew.kept hg3 (.inr (fun e => by have := own_block own2 _ e; omega))
        have HSZ : Hid (w.heap.size + 1 + 1 + 1 < w3.heap.size) := HO3.out.lt
        have HB3 : Hid (Below w.heap.size w w3) := B3
        clear hK K hS0 hrun hown3 hg3 hOd HO2 own2 B2 BB cm c0 cn lm l0 hown B B3 hkey
        generalize hacc : met.flatMap strC = acc at own3
        have HACC : Hid (met.flatMap strC = acc) := hacc
        clear hacc
        go_wp2_with (at_builtin; refine wpList_append_lies _ rfl _ _ _ rfl (w.heap.size + 4) 9 ii _ 1 16 Try.underlying59 hii hz0 hz1 hz2 rfl (by omega) (.slice av k kv) k acc rfl (own3.alloc _) ⟨w3.heap.size, 0, none⟩ 1 1 [.string N] rfl rfl (World.news_of_block (cs := #[.string N]) (t := 9) (fr := (0, 0)) (CellsAt.new w3 9 #[.string N])) (by simp [Value.oneCell']) (by omega) (by unfold maxLen; omega) (by omega) (by have := HSZ.out; simp; omega) (w3.heap.size + 1) (by simp) ?_; intro g gc w8 hown8 hgrow hat hltg)
        have B8 : Below (w.heap.size + 4) w3 w8 := ((Below.refl _ _).alloc (by have := HSZ.out; omega) _).grown hgrow (by have := HSZ.out; simp; omega) (fun i hi => own_block own3 i hi)
        exact ⟨⟨k + 1, met ++ [N], _, by omega, by go_num, ⟨by rw [List.length_append, HML.out]; rfl, HE.out⟩, HO3.out.keep B8 (by omega), by rw [List.flatMap_append, HACC.out]; exact hown8, HB3.out.trans (B8.mono (by omega))⟩, by simp [intOf]; omega⟩
    · obtain rfl : k = rs.length := by omega
      have HE : Hid (OR = (met, 0)) := HY.out met (by rw [HM.out.2, Nat.sub_self, HS0.out])
      have HL := HM.out.1
      go_wp2
      go_ret2
      refine ⟨⟨_, by rw [HE.out]; rfl, ?_, own_cap hown⟩, B⟩
      rw [HE.out]
      show RowOf 1 strCell wr.heap.size wr _ met
      rw [← HL] at hown ⊢
      exact own_rows (C := strC) (cells := strCell) (sz := 1) (fun _ => rfl) strC_at hown (by omega)

end Go.Proofs.Ytaklbnabgcglhab
