/- Texts that are laid together. -/
import Derived.Test.YtaklbnabgcglhacMrgL
import Derived.Test.YtaklbnabgcglhacMrgI
import Derived.Shelf.SlSortCmp.SmallK
import Derived.Ground.SlsfProg
import Derived.Test.YtaklbnabgcglhacProg
import Derived.Test.YtaklbnabgcglhacMrgK
import Derived.Lib.Bytealg

/- The contract of graph.ordered. -/
namespace Go.Proofs.Ytaklbnabgcglhac
open Go.RowKit Go.PlainAid Go.Maps Go.WideMaps

set_option maxRecDepth 100000

def ordRes (Rs : List Mod) : List ByteArray × Int := match orderFrom Rs Rs.length [] with | none => ([], 4) | some c => (c, 0)
theorem ordRes_none {Rs : List Mod} (h : orderFrom Rs Rs.length [] = none) : ordRes Rs = ([], 4) := by unfold ordRes; rw [h]
theorem ordRes_some {Rs : List Mod} {c : List ByteArray} (h : orderFrom Rs Rs.length [] = some c) : ordRes Rs = (c, 0) := by unfold ordRes; rw [h]

def CapOk (v : Value) : Prop := ∀ a n c, v = .slice a n c → n ≤ c ∧ c ≤ 9223372036854775807
theorem capNil : CapOk (.slice none 0 0) := fun a n c h => by
  injection h with _ h2 h3
  omega
theorem own_cap {W : World} {base : Nat} {e : TypeId} {size : Nat} {v : Value} {n : Nat} {xs : List Value} (h : W.ownsRow base e size v n xs) : CapOk v := by
  rcases h.2 with ⟨rfl, _⟩ | ⟨g, cap, cur, rfl, _, _, hcap, hm, _⟩
  · exact capNil
  · intro a m c he
    injection he with _ h2 h3
    unfold maxLen at hm
    omega

theorem infoStr : (Try.prog.info? 9).map (fun i => (i.zero, i.size, i.bytes)) = some (some (.string ⟨#[]⟩), 1, 16) := by kernel_rfl
theorem infoStr_parts : ∃ i, Try.prog.info? 9 = some i ∧ i.zero = some (.string ⟨#[]⟩) ∧ i.size = 1 ∧ i.bytes = 16 := by
  have h := infoStr
  cases hi : Try.prog.info? 9 with
  | none => rw [hi] at h; cases h
  | some i =>
    rw [hi] at h
    simp at h
    exact ⟨i, rfl, h.1, h.2.1, h.2.2⟩

theorem OrdAt.start (rs : List PV) (r : Value) (w : World) (hrow : RowOf 7 PV.cell w.heap.size w r rs) (hat : ∀ x ∈ rs, PlcAt w.heap.size w x) (hfit : ∀ x ∈ rs, x.mod.fits) :
    OrdAt ((((w.alloc (.cells #[r] 61)).alloc (.map #[] 0)).alloc (.cells #[.map (some (w.heap.size + 1))] 80)).alloc (.cells #[.func (.func 54) #[] #[.pointer (some ⟨w.heap.size + 1 + 1, 0, none⟩)]] 90)) w.heap.size 0 (.map []) r rs [] ∧
    Below w.heap.size w ((((w.alloc (.cells #[r] 61)).alloc (.map #[] 0)).alloc (.cells #[.map (some (w.heap.size + 1))] 80)).alloc (.cells #[.func (.func 54) #[] #[.pointer (some ⟨w.heap.size + 1 + 1, 0, none⟩)]] 90)) := by
  have hB : Below w.heap.size w ((((w.alloc (.cells #[r] 61)).alloc (.map #[] 0)).alloc (.cells #[.map (some (w.heap.size + 1))] 80)).alloc (.cells #[.func (.func 54) #[] #[.pointer (some ⟨w.heap.size + 1 + 1, 0, none⟩)]] 90)) := ((((Below.refl _ _).alloc (Nat.le_refl _) _).alloc (by simp) _).alloc (by simp; omega) _).alloc (by simp; omega) _
  have k0 := ((((CellsAt.new w 61 #[r]).kept (World.grownBy_alloc _ (.map #[] 0) none) (by simp)).kept (World.grownBy_alloc _ (.cells #[.map (some (w.heap.size + 1))] 80) none) (by simp)).kept (World.grownBy_alloc _ (.cells #[.func (.func 54) #[] #[.pointer (some ⟨w.heap.size + 1 + 1, 0, none⟩)]] 90) none) (by simp)).cell 0
  have k1 := (((World.ownsMap_made (w.alloc (.cells #[r] 61)) Try.prog 9 (plainElem (H := Unit) Try.prog 3)).kept (World.grownBy_alloc _ (.cells #[.map (some (w.heap.size + 1))] 80) none) (by simp)).kept (World.grownBy_alloc _ (.cells #[.func (.func 54) #[] #[.pointer (some ⟨w.heap.size + 1 + 1, 0, none⟩)]] 90) none) (by simp))
  have k2 := ((CellsAt.new ((w.alloc (.cells #[r] 61)).alloc (.map #[] 0)) 80 #[.map (some (w.heap.size + 1))]).kept (World.grownBy_alloc _ (.cells #[.func (.func 54) #[] #[.pointer (some ⟨w.heap.size + 1 + 1, 0, none⟩)]] 90) none) (by simp)).cell 0
  have k3 := (CellsAt.new (((w.alloc (.cells #[r] 61)).alloc (.map #[] 0)).alloc (.cells #[.map (some (w.heap.size + 1))] 80)) 90 #[.func (.func 54) #[] #[.pointer (some ⟨w.heap.size + 1 + 1, 0, none⟩)]]).cell 0
  simp only [World.size_alloc] at k0 k1 k2 k3
  exact ⟨⟨by simp, k0, k1, k2, k3, HasNames.none, hrow.below hB, fun x hx => (hat x hx).below hB, hfit⟩, hB⟩

set_option maxHeartbeats 4000000 in
theorem ordered_any (rs : List PV) (r : Value) (w : World) (hrow : RowOf 7 PV.cell w.heap.size w r rs) (hat : ∀ x ∈ rs, PlcAt w.heap.size w x) (hfit : ∀ x ∈ rs, x.mod.fits) (h8 : rs.length ≤ 8) :
    Calls Try.prog 31 #[r] w fun e w' => (∃ v, e = .returned (.tuple #[v, .int .i64 (ordRes (rs.map (·.mod))).2]) ∧ RowOf 1 strCell w'.heap.size w' v (ordRes (rs.map (·.mod))).1 ∧ CapOk v) ∧ Below w.heap.size w w' := by
  have HS := OrdAt.start rs r w hrow hat hfit
  have HSH : Hid (OrdAt ((((w.alloc (.cells #[r] 61)).alloc (.map #[] 0)).alloc (.cells #[.map (some (w.heap.size + 1))] 80)).alloc (.cells #[.func (.func 54) #[] #[.pointer (some ⟨w.heap.size + 1 + 1, 0, none⟩)]] 90)) w.heap.size 0 (.map []) r rs []) := HS.1
  have HSB : Hid (Below w.heap.size w ((((w.alloc (.cells #[r] 61)).alloc (.map #[] 0)).alloc (.cells #[.map (some (w.heap.size + 1))] 80)).alloc (.cells #[.func (.func 54) #[] #[.pointer (some ⟨w.heap.size + 1 + 1, 0, none⟩)]] 90))) := HS.2
  have HN : Hid (orderFrom (rs.map (·.mod)) rs.length [] = none → ordRes (rs.map (·.mod)) = ([], 4)) := fun h => ordRes_none (by rw [List.length_map]; exact h)
  have HY : Hid (∀ c, orderFrom (rs.map (·.mod)) rs.length [] = some c → ordRes (rs.map (·.mod)) = (c, 0)) := fun c h => ordRes_some (by rw [List.length_map]; exact h)
  have HST : Hid (∀ n met, orderFrom (rs.map (·.mod)) (n + 1) met = match (rs.map (·.mod)).find? (mayB (rs.map (·.mod)) met) with | none => none | some m => orderFrom (rs.map (·.mod)) n (met ++ [m.name])) := fun n met => rfl
  have HS0 : Hid (∀ met, orderFrom (rs.map (·.mod)) 0 met = some met) := fun met => rfl
  clear HS hat hfit
  generalize ordRes (rs.map (·.mod)) = OR at *
  obtain ⟨ra, rc, rfl, hm, hcells⟩ := hrow
  have hmm := @run_makeMap Try.prog
  obtain ⟨ii, hii, hz0, hz1, hz2⟩ := infoStr_parts
  go_enter Try.func31, Try.ntmps31
  go_wp2_with fail
  go_loopw [7, 14] (fun f i wr => ∃ (k : Nat) (met : List ByteArray) (D : DataW Unit), k ≤ rs.length ∧ i = .int .i64 k ∧ Hid (met.length = k ∧ orderFrom (rs.map (·.mod)) rs.length [] = orderFrom (rs.map (·.mod)) (rs.length - k) met) ∧ OrdAt wr w.heap.size k D (.slice ra rs.length rc) rs met ∧ wr.ownsRow (w.heap.size + 4) 9 1 f k (met.flatMap strC) ∧ Below w.heap.size w wr) (fun _ i _ => rs.length - (intOf i).toNat)
  case atStart => exact ⟨0, [], .map [], Nat.zero_le _, rfl, ⟨rfl, rfl⟩, HSH.out, ⟨rfl, .inl ⟨rfl, rfl⟩⟩, HSB.out⟩
  case round =>
    obtain ⟨k, met, D, hk, rfl, HM, hO, hown, B⟩ := hrel
    clear HSH HSB
    have c0 := hO.c0
    have l0 : w.heap.size < wr.heap.size := by have := hO.lt; omega
    have HO : Hid (OrdAt wr w.heap.size k D (.slice ra rs.length rc) rs met) := hO
    clear hO
    obtain ⟨av, kv, rfl⟩ := own_form hown
    by_cases hlt : k < rs.length
    · have HIX : Hid (Calls Try.prog 58 #[.slice ra rs.length rc, .func (.func 55) #[] #[.pointer (some ⟨w.heap.size + 1 + 1 + 1, 0, none⟩), .pointer (some ⟨w.heap.size, 0, none⟩)]] wr fun e w' => e = .returned (.int .i64 (ixFrom (fun x : PV => mayB (rs.map (·.mod)) met x.mod) 0 rs)) ∧ Below wr.heap.size wr w') :=
        ixMod_any rs _ 55 _ _ (fun w x => enters_of Try.func55 (by kernel_rfl) rfl _ w) _ wr HO.out.rowW (fun x hx W' hb' => ordered2_any x W' (HO.out.below hb') hx)
      have hix := ix_find (fun x : PV => mayB (rs.map (·.mod)) met x.mod) rs 0
      generalize hixv : ixFrom (fun x : PV => mayB (rs.map (·.mod)) met x.mod) 0 rs = ix at *
      clear hcells
      go_wp2_with fail
      refine HIX.out.mono ?_
      rintro e w2 ⟨rfl, b2⟩
      have HO2 : Hid (OrdAt w2 w.heap.size k D (.slice ra rs.length rc) rs met) := HO.out.below b2
      have own2 := own_below hown b2
      have B2 := B.trans (b2.mono B.size)
      clear HIX HO hown b2 c0 l0
      clear hixv
      rcases hix with ⟨h1, rfl⟩ | ⟨j, x, h1, h2, h3⟩
      · have HE : Hid (OR = ([], 4)) := HN.out (by
          rw [HM.out.2, show rs.length - k = (rs.length - k - 1) + 1 by omega, HST.out, List.find?_map, show ((mayB (rs.map (·.mod)) met) ∘ fun x : PV => x.mod) = fun x : PV => mayB (rs.map (·.mod)) met x.mod from rfl, h1]
          rfl)
        clear h1
        go_wp2
        go_ret2
        exact ⟨⟨_, by rw [HE.out]; rfl, by rw [HE.out]; exact ⟨none, 0, rfl, by simp, .inl rfl⟩, capNil⟩, B2⟩
      · have HE : Hid (orderFrom (rs.map (·.mod)) rs.length [] = orderFrom (rs.map (·.mod)) (rs.length - (k + 1)) (met ++ [x.mod.name])) := by
          show orderFrom (rs.map (·.mod)) rs.length [] = _
          rw [HM.out.2, show rs.length - k = (rs.length - (k + 1)) + 1 by omega, HST.out, List.find?_map, show ((mayB (rs.map (·.mod)) met) ∘ fun x : PV => x.mod) = fun x : PV => mayB (rs.map (·.mod)) met x.mod from rfl, h1]
          rfl
        rw [Nat.zero_add] at h3
        subst h3
        have hj : j < rs.length := (List.getElem?_eq_some_iff.1 h2).1
        have hO2 := HO2.out
        obtain ⟨ra', rc', ee, _, hcl⟩ := hO2.row
        injection ee with e1 e2 e3
        subst e1 e3
        rcases hcl with h | ⟨b, off, rfl, hbn, hcells⟩
        · subst h; simp at hj
        have cn := hcells j x h2 0 (by omega)
        dsimp only [PV.cell] at cn
        have hn : x.mod.name.size ≤ 9223372036854775807 := (hO2.fit x (List.mem_of_getElem? h2)).1
        have hkey : keyOf Try.prog 9 (.string x.mod.name) = some (.string x.mod.name.data.toList) := keyOf_string_mk Try.underlying9 hn
        have cm := hO2.cm
        have c0 := hO2.c0
        have lm : w.heap.size + 1 + 1 < w2.heap.size := by have := hO2.lt; omega
        have l0 : w.heap.size < w2.heap.size := by have := hO2.lt; omega
        have hbn2 : b < w2.heap.size := by omega
        have hown := hO2.own
        have HML : Hid (met.length = k) := HM.out.1
        clear hcells h1 h2 hO2 HM HST HN e2 hmm
        obtain ⟨⟨N, ma, mi, T, es, is, ps⟩, ve, vi, vp, fi⟩ := x
        dsimp only at cn hn hkey HE
        rw [Nat.add_zero] at cn
        go_wp2_with fail
        refine wp_region_noPanic ?_
        refine wp_region_L (S := fun w' => w'.cell? ⟨w.heap.size + 1 + 1, 0, none⟩ = some (.map (some (w.heap.size + 1))) ∧ w'.cell? ⟨w.heap.size, 0, none⟩ = some (.slice (some ⟨b, off, none⟩) rs.length rc) ∧ w'.cell? ⟨b, off + j * 7, none⟩ = some (.string N)) (x := 7) (by kernel_rfl) ?_
        have hS0 : w2.drew.cell? ⟨w.heap.size + 1 + 1, 0, none⟩ = some (.map (some (w.heap.size + 1))) ∧ w2.drew.cell? ⟨w.heap.size, 0, none⟩ = some (.slice (some ⟨b, off, none⟩) rs.length rc) ∧ w2.drew.cell? ⟨b, off + j * 7, none⟩ = some (.string N) := ⟨cm, c0, cn⟩
        refine wpL_take 0 21 (.map (some (w.heap.size + 1))) rfl (by kernel_rfl) (fun _ _ _ h => h) hS0 rfl rfl (fun w' hSw => by (try dsimp only at hSw); go_simp) ?_
        simp only [List.setIfInBounds_toArray, List.set_cons_zero, List.set_cons_succ]
        refine wpL_take 1 22 (.slice (some ⟨b, off, none⟩) rs.length rc) rfl (by kernel_rfl) (fun _ _ _ h => h) hS0 rfl rfl (fun w' hSw => by (try dsimp only at hSw); go_simp) ?_
        simp only [List.setIfInBounds_toArray, List.set_cons_zero, List.set_cons_succ]
        refine wpL_take 2 23 (.int .i64 j) rfl (by kernel_rfl) (fun _ _ _ h => h) hS0 rfl rfl (fun w' hSw => by (try dsimp only at hSw); go_simp) ?_
        simp only [List.setIfInBounds_toArray, List.set_cons_zero, List.set_cons_succ]
        refine wpL_take 3 24 (.pointer (some ⟨b, off + j * 7, none⟩)) rfl (by kernel_rfl) (fun _ _ _ h => h) hS0 rfl rfl (fun w' hSw => by (try dsimp only at hSw); go_simp) ?_
        simp only [List.setIfInBounds_toArray, List.set_cons_zero, List.set_cons_succ]
        refine wpL_take 4 25 (.pointer (some ⟨b, off + j * 7, none⟩)) rfl (by kernel_rfl) (fun _ _ _ h => h) hS0 rfl rfl (fun w' hSw => by (try dsimp only at hSw); go_simp) ?_
        simp only [List.setIfInBounds_toArray, List.set_cons_zero, List.set_cons_succ]
        refine wpL_take 5 26 (.string N) rfl (by kernel_rfl) (fun _ _ _ h => h) hS0 rfl rfl (fun w' hSw => by (try dsimp only at hSw); go_simp) ?_
        simp only [List.setIfInBounds_toArray, List.set_cons_zero, List.set_cons_succ]
        refine wpL_take 6 27 (.int .i64 j) rfl (by kernel_rfl) (fun _ _ _ h => h) hS0 rfl rfl (fun w' hSw => by (try dsimp only at hSw); go_simp) ?_
        simp only [List.setIfInBounds_toArray, List.set_cons_zero, List.set_cons_succ]
        refine wpL_last (x := 7) rfl (by kernel_rfl) (by kernel_rfl) (fun K hK => ?_)
        obtain ⟨w3, hrun, hown3, hg3⟩ := hown.drew.update lawS Try.underlying80 (by unfold maxLen; omega) hkey (plainElem_int Try.underlying3 (WalkArith.wf_i64 (n := (j : Int)) (by omega)))
        go_simp
        refine hK.out _ _ ?_
        refine NoPanic.normal ?_
        have hOd : OrdAt w2.drew w.heap.size k D (.slice (some ⟨b, off, none⟩) rs.length rc) rs met := HO2.out.below ((Below.refl _ _).drew)
        have HO3 : Hid (OrdAt w3 w.heap.size (k + 1) (D.put (.string N.data.toList) (.lit (.int .i64 j))) (.slice (some ⟨b, off, none⟩) rs.length rc) rs (met ++ [N])) := hOd.put hg3 hown3 (HO2.out.has.put HO2.out.own.isMap N _)
        have c03 := HO3.out.c0
        have l03 : w.heap.size < w3.heap.size := by have := HO3.out.lt; omega
        have BB : Below w.heap.size w2 w3 := ((Below.refl _ _).drew).grown hg3 (by show w.heap.size ≤ w2.heap.size; omega) (fun i hi => by injection hi with hi; omega)
        have cn3 := (BB.cell (p := ⟨b, off + j * 7, none⟩) hbn).trans cn
        have B3 := B2.trans BB
        have own3 := own2.drew.kept hg3 (.inr (fun e => by have := own_block own2 _ e; omega))
        have HSZ : Hid (w.heap.size + 1 + 1 + 1 < w3.heap.size) := HO3.out.lt
        have HB3 : Hid (Below w.heap.size w w3) := B3
        clear hK K hS0 hrun hown3 hg3 hOd HO2 own2 B2 BB cm c0 cn lm l0 hown B B3 hkey
        generalize hacc : met.flatMap strC = acc at own3
        have HACC : Hid (met.flatMap strC = acc) := hacc
        clear hacc
        go_wp2_with (at_builtin; refine wpList_append_lies _ rfl _ _ _ rfl (w.heap.size + 4) 9 ii _ 1 16 Try.underlying24 hii hz0 hz1 hz2 rfl (by omega) (.slice av k kv) k acc rfl (own3.alloc _) ⟨w3.heap.size, 0, none⟩ 1 1 [.string N] rfl rfl (World.news_of_block (cs := #[.string N]) (t := 9) (fr := (0, 0)) (CellsAt.new w3 9 #[.string N])) (by simp [Value.oneCell']) (by omega) (by unfold maxLen; omega) (by omega) (by have := HSZ.out; simp; omega) (w3.heap.size + 1) (by simp) ?_; intro g gc w8 hown8 hgrow hat hltg)
        have B8 : Below (w.heap.size + 4) w3 w8 := ((Below.refl _ _).alloc (by have := HSZ.out; omega) _).grown hgrow (by have := HSZ.out; simp; omega) (fun i hi => own_block own3 i hi)
        exact ⟨⟨k + 1, met ++ [N], _, by omega, by go_num, ⟨by rw [List.length_append, HML.out]; rfl, HE.out⟩, HO3.out.keep B8 (by omega), by rw [List.flatMap_append, HACC.out]; exact hown8, HB3.out.trans (B8.mono (by omega))⟩, by simp [intOf]; omega⟩
    · obtain rfl : k = rs.length := by omega
      have HE : Hid (OR = (met, 0)) := HY.out met (by rw [HM.out.2, Nat.sub_self, HS0.out])
      have HL := HM.out.1
      go_wp2
      go_ret2
      refine ⟨⟨_, by rw [HE.out]; rfl, ?_, own_cap hown⟩, B⟩
      rw [HE.out]
      show RowOf 1 strCell wr.heap.size wr _ met
      rw [← HL] at hown ⊢
      exact own_rows (C := strC) (cells := strCell) (sz := 1) (fun _ => rfl) strC_at hown (by omega)

end Go.Proofs.Ytaklbnabgcglhac

/- The laying of slices.SortFunc at modules. -/
namespace Go.Proofs.Ytaklbnabgcglhac
open Go.Shelf

set_option maxRecDepth 100000

def sortFL_ren : Go.Shelf.Ren := ⟨fun | 6 => 59 | 15 => 74 | 14 => 73 | 28 => 89 | 29 => 90 | 20 => 81 | 21 => 82 | 22 => 83 | 23 => 84 | 24 => 85 | 25 => 86 | 26 => 87 | 27 => 88 | 46 => 101 | 47 => 102 | 48 => 103 | 49 => 104 | 50 => 105 | 57 => 110 | n => n, fun | 22 => 61 | 24 => 36 | 25 => 95 | 3 => 3 | 39 => 107 | 0 => 0 | 53 => 122 | 55 => 124 | 4 => 4 | 46 => 116 | 45 => 115 | 50 => 82 | 5 => 5 | 9 => 9 | 66 => 131 | 70 => 135 | 76 => 139 | 77 => 140 | n => n, fun | n => n⟩
theorem sortFL : Go.Proofs.SlLaysF0.n6 Try.prog sortFL_ren := {
  mixed := by kernel_rfl
  f6 := ⟨Try.f59.name, by decide, Try.func59.trans (congrArg some (by kernel_rfl))⟩
  f14 := ⟨Try.f73.name, by decide, Try.func73.trans (congrArg some (by kernel_rfl))⟩
  f15 := Try.func74.trans (congrArg some (by kernel_rfl))
  f20 := ⟨Try.f81.name, by decide, Try.func81.trans (congrArg some (by kernel_rfl))⟩
  f21 := ⟨Try.f82.name, by decide, Try.func82.trans (congrArg some (by kernel_rfl))⟩
  f22 := ⟨Try.f83.name, by decide, Try.func83.trans (congrArg some (by kernel_rfl))⟩
  f23 := ⟨Try.f84.name, by decide, Try.func84.trans (congrArg some (by kernel_rfl))⟩
  f24 := ⟨Try.f85.name, by decide, Try.func85.trans (congrArg some (by kernel_rfl))⟩
  f25 := ⟨Try.f86.name, by decide, Try.func86.trans (congrArg some (by kernel_rfl))⟩
  f26 := ⟨Try.f87.name, by decide, Try.func87.trans (congrArg some (by kernel_rfl))⟩
  f27 := ⟨Try.f88.name, by decide, Try.func88.trans (congrArg some (by kernel_rfl))⟩
  f28 := Try.func89.trans (congrArg some (by kernel_rfl))
  f29 := Try.func90.trans (congrArg some (by kernel_rfl))
  f46 := ⟨Try.f101.name, by decide, Try.func101.trans (congrArg some (by kernel_rfl))⟩
  f47 := Try.func102.trans (congrArg some (by kernel_rfl))
  f48 := Try.func103.trans (congrArg some (by kernel_rfl))
  f49 := ⟨Try.f104.name, by decide, Try.func104.trans (congrArg some (by kernel_rfl))⟩
  f50 := ⟨Try.f105.name, by decide, Try.func105.trans (congrArg some (by kernel_rfl))⟩
  f57 := ⟨Try.f110.name, by decide, Try.func110.trans (congrArg some (by kernel_rfl))⟩
  t0 := Try.underlying0
  a0 := Try.isAgg0
  z0 := Try.sizeOf0
  v0 := Try.zeroValue0
  t3 := Try.underlying3
  a3 := Try.isAgg3
  z3 := Try.sizeOf3
  v3 := Try.zeroValue3
  t4 := Try.underlying4
  a4 := Try.isAgg4
  z4 := Try.sizeOf4
  v4 := Try.zeroValue4
  t5 := Try.underlying5
  a5 := Try.isAgg5
  z5 := Try.sizeOf5
  v5 := Try.zeroValue5
  t9 := Try.underlying9
  a9 := Try.isAgg9
  z9 := Try.sizeOf9
  v9 := Try.zeroValue9
  t22 := Try.underlying61
  a22 := Try.isAgg61
  z22 := Try.sizeOf61
  v22 := Try.zeroValue61
  t25 := Try.underlying95
  a25 := Try.isAgg95
  z25 := Try.sizeOf95
  v25 := Try.zeroValue95
  t39 := Try.underlying107
  a39 := Try.isAgg107
  z39 := Try.sizeOf107
  v39 := Try.zeroValue107
  t45 := Try.underlying115
  a45 := Try.isAgg115
  z45 := Try.sizeOf115
  v45 := Try.zeroValue115
  t46 := Try.underlying116
  a46 := Try.isAgg116
  z46 := Try.sizeOf116
  v46 := Try.zeroValue116
  t50 := Try.underlying82
  a50 := Try.isAgg82
  z50 := Try.sizeOf82
  v50 := Try.zeroValue82
  t53 := Try.underlying122
  a53 := Try.isAgg122
  z53 := Try.sizeOf122
  v53 := Try.zeroValue122
  t55 := Try.underlying124
  a55 := Try.isAgg124
  z55 := Try.sizeOf124
  v55 := Try.zeroValue124
  t66 := Try.underlying131
  a66 := Try.isAgg131
  z66 := Try.sizeOf131
  v66 := Try.zeroValue131
  t70 := Try.underlying135
  a70 := Try.isAgg135
  z70 := Try.sizeOf135
  v70 := Try.zeroValue135
  t76 := Try.underlying139
  a76 := Try.isAgg139
  z76 := Try.sizeOf139
  v76 := Try.zeroValue139
  t77 := Try.underlying140
  a77 := Try.isAgg140
  z77 := Try.sizeOf140
  v77 := Try.zeroValue140 }

end Go.Proofs.Ytaklbnabgcglhac

/- slices.SortFunc at modules: strings.Compare, math/bits.Len, the function that is handed in, the sort itself. -/
namespace Go.Proofs.Ytaklbnabgcglhac
open Go.RowKit Go.PlainAid
open Go.Sort (grow alloc_eq_grow grow_grow putRow putRowK mapBlock)

set_option maxRecDepth 100000

theorem cmpB_neg : ∀ a b : List UInt8, Lib.compareBytes a b < 0 ↔ a < b
  | [], [] => by simp [Lib.compareBytes]
  | [], _ :: _ => by simp [Lib.compareBytes]
  | _ :: _, [] => by simp [Lib.compareBytes]
  | x :: a, y :: b => by
    unfold Lib.compareBytes
    rw [List.cons_lt_cons_iff]
    by_cases h : x < y
    · rw [if_pos h]
      exact ⟨fun _ => .inl h, fun _ => by decide⟩
    · rw [if_neg h]
      by_cases g : y < x
      · rw [if_pos g]
        constructor
        · intro h1; exact absurd h1 (by decide)
        · rintro (h1 | ⟨rfl, _⟩)
          · exact absurd h1 h
          · exact absurd g h
      · rw [if_neg g, cmpB_neg a b]
        have e : x = y := UInt8.le_antisymm (UInt8.not_lt.1 g) (UInt8.not_lt.1 h)
        constructor
        · exact fun h1 => .inr ⟨e, h1⟩
        · rintro (h1 | ⟨_, h1⟩)
          · exact absurd h1 h
          · exact h1

set_option maxHeartbeats 1000000 in
theorem compareString_any (a b : ByteArray) (w : World) :
    Calls Try.prog 75 #[.string a, .string b] w fun e w' => e = .returned (.int .i64 (Lib.compareBytes a.data.toList b.data.toList)) ∧ w' = w := by
  go_enter Try.func75, Try.ntmps75
  go_wp2
  rw [run_callFunc_extern Try.func91 (by kernel_rfl) (by kernel_rfl) (by kernel_rfl) (e := Extern.BytealgCompare.compare) (by kernel_rfl), Lib.run_compareString]
  simp only [Result.andThen]
  rw [Oper.upon_value]
  go_wp2
  go_ret
  exact ⟨rfl, rfl⟩

set_option maxHeartbeats 1000000 in
theorem compare_any (a b : ByteArray) (w : World) :
    Calls Try.prog 61 #[.string a, .string b] w fun e w' => e = .returned (.int .i64 (Lib.compareBytes a.data.toList b.data.toList)) ∧ w' = w := by
  have HC := compareString_any a b w
  generalize Lib.compareBytes a.data.toList b.data.toList = r at *
  go_enter Try.func61, Try.ntmps61
  go_wp2_with fail
  refine HC.mono ?_
  rintro e w2 ⟨rfl, rfl⟩
  clear HC
  go_wp2
  go_ret
  exact ⟨rfl, rfl⟩

set_option maxHeartbeats 4000000 in
theorem bitsLen_any (n : Nat) (W : World) (h : n ≤ 12) : Calls Try.prog 74 #[.int .u64 n] W fun e w' => (∃ l : Int, e = .returned (.int .i64 l)) ∧ w' = W := by
  have hn : n = 0 ∨ n = 1 ∨ n = 2 ∨ n = 3 ∨ n = 4 ∨ n = 5 ∨ n = 6 ∨ n = 7 ∨ n = 8 ∨ n = 9 ∨ n = 10 ∨ n = 11 ∨ n = 12 := by omega
  rcases hn with rfl | rfl | rfl | rfl | rfl | rfl | rfl | rfl | rfl | rfl | rfl | rfl | rfl
  all_goals
    go_enter Try.func74, Try.ntmps74
    go_wp2
    go_ret
    exact ⟨⟨_, rfl⟩, rfl⟩

/-- A slice's value; another one is none. -/
def slV : Value → Value
  | .slice a n c => .slice a n c
  | _ => .slice none 0 0
theorem slV_form (v : Value) : ∃ a n c, slV v = .slice a n c := by
  cases v <;> exact ⟨_, _, _, rfl⟩
def modE (x : PV) : List Value := [.string x.mod.name, .int .i64 x.mod.major, .int .i64 x.mod.minor, .string x.mod.text, slV x.ve, slV x.vi, slV x.vp]
theorem modE_one (x : PV) : ∀ v ∈ modE x, v.oneCell' = true := by
  intro v hv
  unfold modE at hv
  obtain ⟨a, n, c, h1⟩ := slV_form x.ve
  obtain ⟨a2, n2, c2, h2⟩ := slV_form x.vi
  obtain ⟨a3, n3, c3, h3⟩ := slV_form x.vp
  rw [h1, h2, h3] at hv
  simp at hv
  rcases hv with rfl | rfl | rfl | rfl | rfl | rfl | rfl <;> rfl
theorem modE_at {n₀ : Nat} {W : World} {x : PV} (h : PlcAt n₀ W x) (i : Nat) (hi : i < 7) : (modE x)[i]? = some (PV.cell x i) := by
  obtain ⟨⟨pe, ke, e4, _⟩, ⟨pi, ki, e5, _⟩, ⟨pp, kp, e6, _⟩⟩ := h
  have : i = 0 ∨ i = 1 ∨ i = 2 ∨ i = 3 ∨ i = 4 ∨ i = 5 ∨ i = 6 := by omega
  unfold modE
  rw [e4, e5, e6]
  rcases this with rfl | rfl | rfl | rfl | rfl | rfl | rfl <;> first | rfl | exact congrArg some e4.symm | exact congrArg some e5.symm | exact congrArg some e6.symm

set_option maxHeartbeats 2000000 in
theorem rising1_any (x y : PV) (W : World) : Calls Try.prog 60 #[.agg (modE x).toArray, .agg (modE y).toArray] W fun e w' => e = .returned (.int .i64 (Lib.compareBytes x.mod.name.data.toList y.mod.name.data.toList)) ∧ ∃ q os', w' = grow (W.drewN q) os' := by
  obtain ⟨a1, n1, c1, h1⟩ := slV_form x.ve
  obtain ⟨a2, n2, c2, h2⟩ := slV_form x.vi
  obtain ⟨a3, n3, c3, h3⟩ := slV_form x.vp
  obtain ⟨a4, n4, c4, h4⟩ := slV_form y.ve
  obtain ⟨a5, n5, c5, h5⟩ := slV_form y.vi
  obtain ⟨a6, n6, c6, h6⟩ := slV_form y.vp
  unfold modE
  rw [h1, h2, h3, h4, h5, h6]
  clear h1 h2 h3 h4 h5 h6
  obtain ⟨⟨N, ma, mi, T, es, is, ps⟩, ve, vi, vp, fi⟩ := x
  obtain ⟨⟨N', ma', mi', T', es', is', ps'⟩, ve', vi', vp', fi'⟩ := y
  dsimp only
  have HC : Hid (∀ W, Calls Try.prog 61 #[.string N, .string N'] W fun e w' => e = .returned (.int .i64 (Lib.compareBytes N.data.toList N'.data.toList)) ∧ w' = W) := fun W => compare_any N N' W
  generalize Lib.compareBytes N.data.toList N'.data.toList = r at *
  go_enter Try.func60, Try.ntmps60
  go_wp2_with fail
  refine (HC.out _).mono ?_
  rintro e w2 ⟨rfl, rfl⟩
  clear HC
  go_wp2
  go_ret
  exact ⟨rfl, 0, _, by rw [alloc_eq_grow, alloc_eq_grow, grow_grow]; rfl⟩

theorem cmp_swo : Go.Sort.SWO (ltOf fun x y : PV => Lib.compareBytes x.mod.name.data.toList y.mod.name.data.toList) := by
  have h : ∀ x y : PV, ltOf (fun x y : PV => Lib.compareBytes x.mod.name.data.toList y.mod.name.data.toList) x y = true ↔ x.mod.name.data.toList < y.mod.name.data.toList := fun x y => by
    unfold ltOf
    rw [decide_eq_true_iff, cmpB_neg]
  have hf : ∀ x y : PV, ltOf (fun x y : PV => Lib.compareBytes x.mod.name.data.toList y.mod.name.data.toList) x y = false ↔ ¬ x.mod.name.data.toList < y.mod.name.data.toList := fun x y => by
    rw [← h, Bool.not_eq_true]
  refine ⟨fun x => (hf x x).2 (List.lt_irrefl _), fun x y z h1 h2 => (h x z).2 (List.lt_trans ((h x y).1 h1) ((h y z).1 h2)), fun x y z h1 h2 => (hf x z).2 ?_⟩
  exact List.not_lt.2 (List.le_trans (List.not_lt.1 ((hf y z).1 h2)) (List.not_lt.1 ((hf x y).1 h1)))

theorem below_sortWorld {α : Type} [Inhabited α] (enc : α → List Value) (k : Nat) (w : World) (blk off m : Nat) (d : Array α) (os : Array Obj) (hb : blk < w.heap.size) : Below blk w (sortWorldK enc k w blk off m d os) := by
  unfold sortWorldK putRowK putRow mapBlock Go.Sort.ahead grow
  refine ⟨rfl, rfl, rfl, by simp, fun i hi => ?_⟩
  dsimp only
  rw [Array.getElem?_append_left (by rw [Array.size_modify]; omega), Array.getElem?_modify, if_neg (by omega)]

end Go.Proofs.Ytaklbnabgcglhac
