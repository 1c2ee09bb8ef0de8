/- Texts that are laid together. -/
import Derived.Test.YtaklbnabgcglhacMrgC
import Derived.Maps.OwnSet
import Derived.DeepKeys4

/- The contract of module.wrongExports. -/
namespace Go.Proofs.Ytaklbnabgcglhac
open Go.RowKit Go.PlainAid Go.Maps Go.WideMaps

theorem lawS : Keyed Try.prog 9 := string_keyed Try.underlying9
theorem zeroI (w : World) : (zeroValue 3).run Try.prog w = .ok (.int .i64 0) w := by kernel_rfl

theorem expErr_cases (most : Int) (met : List ByteArray) (n : ByteArray) (p : Int) :
    (isNm n = false ∧ expErr most met ⟨n, p⟩ = 1) ∨ (isNm n = true ∧ (met.any fun x => x == n) = true ∧ expErr most met ⟨n, p⟩ = 6) ∨
    (isNm n = true ∧ (met.any fun x => x == n) = false ∧ p < 0 ∧ expErr most met ⟨n, p⟩ = 3) ∨ (isNm n = true ∧ (met.any fun x => x == n) = false ∧ 0 ≤ p ∧ most ≤ p ∧ expErr most met ⟨n, p⟩ = 3) ∨
    (isNm n = true ∧ (met.any fun x => x == n) = false ∧ 0 ≤ p ∧ p < most ∧ expErr most met ⟨n, p⟩ = 0) := by
  unfold expErr
  dsimp only
  cases h1 : isNm n
  · exact .inl ⟨rfl, by simp⟩
  cases h2 : met.any fun x => x == n
  · by_cases h3 : p < 0
    · exact .inr (.inr (.inl ⟨rfl, rfl, h3, by rw [betw_false (n := p) (.inl h3)]; simp⟩))
    by_cases h4 : most ≤ p
    · exact .inr (.inr (.inr (.inl ⟨rfl, rfl, by omega, h4, by rw [betw_false (n := p) (.inr (by omega))]; simp⟩)))
    · exact .inr (.inr (.inr (.inr ⟨rfl, rfl, by omega, by omega, by rw [betw_true (n := p) (by omega) (by omega)]; simp⟩)))
  · exact .inr (.inl ⟨rfl, rfl, by simp⟩)

theorem ba_beq (x y : ByteArray) : (x == y) = true ↔ x = y := Go.MapKept.bytes_beq x y
theorem ba_bne {x y : ByteArray} (h : x ≠ y) : (x == y) = false := by
  cases e : x == y
  · rfl
  · exact absurd ((ba_beq x y).1 e) h
theorem ba_self (x : ByteArray) : (x == x) = true := (ba_beq x x).2 rfl
theorem lit_inj {x y : ByteArray} (h : Lit.string x.data.toList = Lit.string y.data.toList) : x = y := by
  injection h with h
  exact ByteArray.ext (Array.toList_inj.1 h)

/-- The map has just these names. -/
def HasNames (D : DataW Unit) (met : List ByteArray) : Prop := ∀ x : ByteArray, Maps.has D (.string x.data.toList) = met.any fun y => y == x
theorem HasNames.none : HasNames (.map []) [] := fun _ => rfl
theorem HasNames.put {D : DataW Unit} {met : List ByteArray} (h : HasNames D met) (hD : IsMap D) (n : ByteArray) (d : DataW Unit) : HasNames (D.put (.string n.data.toList) d) (met ++ [n]) := by
  intro x
  rw [List.any_append]
  by_cases e : x = n
  · subst e
    rw [has_put_same hD (show WideAt.IsKeyLit (.string x.data.toList) from trivial)]
    simp [ba_self]
  · rw [has_put_other (fun he => e (lit_inj he)), h x]
    have : (n == x) = false := ba_bne (fun he => e he.symm)
    simp [this]

set_option maxRecDepth 100000 in
set_option maxHeartbeats 2000000 in
theorem wrongExports_any (l : List Exp) (v : Value) (bytes : Int) (w : World) (hrow : RowOf 2 Exp.cell w.heap.size w v l) (hfit : ∀ e ∈ l, e.name.size ≤ 9223372036854775807) (hl : l.length ≤ 8) :
    Calls Try.prog 65 #[v, .int .i64 bytes] w fun e w' => e = .returned (.int .i64 (chkExps bytes [] l)) ∧ Below w.heap.size w w' := by
  obtain ⟨a, cap, rfl, _, hrow⟩ := hrow
  have hmm := @run_makeMap Try.prog
  go_enter Try.func65, Try.ntmps65
  go_wp2
  go_loopw [13] (fun i wr => ∃ (k : Nat) (D : DataW Unit), k ≤ l.length ∧ i = .int .i64 k ∧ wr.ownsMap Try.prog 9 (plainElem Try.prog 3) w.heap.size k D ∧ HasNames D ((l.take k).map (·.name)) ∧ Hid (chkExps bytes [] l = chkExps bytes ((l.take k).map (·.name)) (l.drop k)) ∧ Below w.heap.size w wr) (fun i _ => l.length - (intOf i).toNat)
  case atStart => exact ⟨0, .map [], Nat.zero_le _, rfl, World.ownsMap_made _ _ _ _, HasNames.none, by show chkExps bytes [] l = chkExps bytes [] (l.drop 0); rfl, (Below.refl _ _).alloc (Nat.le_refl _) _⟩
  case round =>
    obtain ⟨k, D, hk, rfl, hown, hD, HC, B⟩ := hrel
    by_cases hlt : k < l.length
    · obtain ⟨p, hp⟩ : ∃ p, l[k]? = some p := ⟨_, List.getElem?_eq_getElem hlt⟩
      rcases hrow with h | ⟨b, off, rfl, hbn, hcells⟩
      · subst h; simp at hlt
      obtain ⟨n, A⟩ := p
      have hn := hfit _ (List.mem_of_getElem? hp)
      dsimp only at hn
      have c0 := (B.cell (p := ⟨b, off + k * 2 + 0, none⟩) hbn).trans (hcells k _ hp 0 (by omega))
      have c1 := (B.cell (p := ⟨b, off + k * 2 + 1, none⟩) hbn).trans (hcells k _ hp 1 (by omega))
      dsimp only [Exp.cell] at c0 c1
      rw [Nat.add_zero] at c0
      have hkey : keyOf Try.prog 9 (.string n) = some (.string n.data.toList) := keyOf_string_mk Try.underlying9 hn
      have htk : (l.take (k + 1)).map (·.name) = (l.take k).map (·.name) ++ [n] := by rw [List.take_add_one, hp]; simp
      have HR : Hid (chkExps bytes [] l = if expErr bytes ((l.take k).map (·.name)) ⟨n, A⟩ = 0 then chkExps bytes ((l.take (k + 1)).map (·.name)) (l.drop (k + 1)) else expErr bytes ((l.take k).map (·.name)) ⟨n, A⟩) := by
        show chkExps bytes [] l = _
        rw [HC.out, drop_at hp, htk]; rfl
      have key := expErr_cases bytes ((l.take k).map (·.name)) n A
      have hhas := hD n
      have hput : ∀ d, HasNames (D.put (.string n.data.toList) d) ((l.take (k + 1)).map (·.name)) := fun d => by rw [htk]; exact hD.put hown.isMap n d
      clear HC hcells hp htk hD
      have HPUT : Hid (∀ d, HasNames (D.put (.string n.data.toList) d) ((l.take (k + 1)).map (·.name))) := hput
      clear hput
      generalize expErr bytes ((l.take k).map (·.name)) ⟨n, A⟩ = R at key HR
      generalize ((l.take k).map (·.name)).any (fun x => x == n) = T at key hhas
      rcases key with ⟨h1, rfl⟩ | ⟨h1, rfl, rfl⟩ | ⟨h1, rfl, h2, rfl⟩ | ⟨h1, rfl, h2, h3, rfl⟩ | ⟨h1, rfl, h2, h3, rfl⟩
      all_goals
        go_wp2_with (first
          | (at_lookup; refine wpList_lookup_own_ok_int _ rfl _ _ 80 rfl 9 3 .i64 lawS Try.underlying80 Try.underlying3 (zeroI _) w.heap.size k D rfl (hown.kept (World.grownBy_alloc _ _ none) (by simp)) _ _ rfl hkey ?_; intro c hat hwc; clear hat hwc)
          | (at_mapUpdate; refine wpList_mapUpdate_own _ rfl _ _ _ 80 rfl 9 3 lawS Try.underlying80 _ w.heap.size k _ rfl (hown.kept (World.grownBy_alloc _ _ none) (by simp)) (by unfold maxLen; omega) _ _ _ rfl rfl hkey _ [] (plainElem_int Try.underlying3 (WalkArith.wf_i64 (by omega))) ?_; intro w1 hown1 hgrow1)
          | (go_at_call 62; refine (isName_any _ _ (by assumption)).mono ?_; rintro e w' ⟨rfl, rfl⟩))
      case roundEnd =>
        exact ⟨⟨k + 1, _, by omega, by go_num, hown1, HPUT.out _, HR.out, (B.alloc B.size _).grown hgrow1 (by simp; have := B.size; omega) (fun j hj => by cases hj; exact Nat.le_refl _)⟩, by simp [intOf]; omega⟩
      all_goals
        go_ret
        exact ⟨by rw [HR.out]; rfl, B.alloc B.size _⟩
    · obtain rfl : k = l.length := by omega
      have HZ : Hid (chkExps bytes [] l = 0) := by
        show chkExps bytes [] l = 0
        rw [HC.out, List.drop_length]; rfl
      go_wp2
      go_ret
      exact ⟨by rw [HZ.out]; rfl, B⟩

end Go.Proofs.Ytaklbnabgcglhac

/- The contract of module.wrongImports. -/
namespace Go.Proofs.Ytaklbnabgcglhac
open Go.RowKit Go.PlainAid Go.Maps Go.WideMaps

set_option maxRecDepth 100000

theorem laidOut : laidOutB Try.prog = true := by kernel_rfl
theorem lawP : Keyed Try.prog 111 := Keyed.of_law (deep_law_laid laidOut (m := 8) (by decide) (of_decide_eq_true (by kernel_rfl)) (by kernel_rfl) (by rw [Try.underlying111]))

theorem pair_key (m n : ByteArray) (hm : m.size ≤ 9223372036854775807) (hn : n.size ≤ 9223372036854775807) : ∃ l, keyOf Try.prog 111 (.agg #[.string m, .string n]) = some l := by
  have hc : Try.prog.cellsOf 111 = 2 := by kernel_rfl
  have hs : Try.prog.cellsOf 9 = 1 := by kernel_rfl
  have hk : Try.prog.keyType 111 = true := by kernel_rfl
  have hm' : m.size ≤ maxLen := hm
  have hn' : n.size ≤ maxLen := hn
  have e : ∀ d, Try.prog.keyLits (d + 1 + 1) 111 [.string m, .string n] = some [.string m.data.toList, .string n.data.toList] := by
    intro d
    simp [Program.keyLits, Try.underlying111, Try.underlying9, hc, hs, hm', hn']
  unfold keyOf
  rw [Try.underlying111]
  simp [hk, Value.formed, Try.underlying111, hc, Value.cells]
  exact ⟨_, _, e _, rfl⟩

/-- The map has just these pairs. -/
def HasPairs (D : DataW Unit) (met : List (ByteArray × ByteArray)) : Prop := ∀ m n l, keyOf Try.prog 111 (.agg #[.string m, .string n]) = some l → Maps.has D l = met.any fun x => x.1 == m && x.2 == n
theorem HasPairs.none : HasPairs (.map []) [] := fun _ _ _ _ => rfl
theorem HasPairs.put {D : DataW Unit} {met : List (ByteArray × ByteArray)} (h : HasPairs D met) (hD : IsMap D) (m n : ByteArray) (l : Lit) (hl : keyOf Try.prog 111 (.agg #[.string m, .string n]) = some l) (d : DataW Unit) : HasPairs (D.put l d) (met ++ [(m, n)]) := by
  intro m' n' l' hl'
  rw [List.any_append]
  by_cases e : l' = l
  · subst e
    have := lawP.inj hl hl'
    injection this with this
    have e2 := congrArg Array.toList this
    simp at e2
    obtain ⟨rfl, rfl⟩ := e2
    rw [has_put_same hD (lawP.key hl)]
    simp [ba_self]
  · rw [has_put_other e, h m' n' l' hl']
    have : (m == m' && n == n') = false := by
      cases e1 : m == m'
      · rfl
      · cases e2 : n == n'
        · rfl
        · rw [ba_beq] at e1 e2
          subst e1; subst e2
          rw [hl] at hl'
          exact absurd (Option.some.inj hl').symm e
    simp [this]

theorem impErr_cases (met : List (ByteArray × ByteArray)) (m n : ByteArray) (a b : Int) :
    (isNm m = false ∧ impErr met ⟨m, n, a, b⟩ = 1) ∨ (isNm m = true ∧ isNm n = false ∧ impErr met ⟨m, n, a, b⟩ = 1) ∨ (isNm m = true ∧ isNm n = true ∧ (met.any fun x => x.1 == m && x.2 == n) = true ∧ impErr met ⟨m, n, a, b⟩ = 6) ∨
    (isNm m = true ∧ isNm n = true ∧ (met.any fun x => x.1 == m && x.2 == n) = false ∧ isVer a b = false ∧ impErr met ⟨m, n, a, b⟩ = 3) ∨ (isNm m = true ∧ isNm n = true ∧ (met.any fun x => x.1 == m && x.2 == n) = false ∧ isVer a b = true ∧ impErr met ⟨m, n, a, b⟩ = 0) := by
  unfold impErr
  dsimp only
  cases h1 : isNm m
  · exact .inl ⟨rfl, by simp⟩
  cases h2 : isNm n
  · exact .inr (.inl ⟨rfl, rfl, by simp⟩)
  cases h3 : met.any fun x => x.1 == m && x.2 == n
  · cases h4 : isVer a b
    · exact .inr (.inr (.inr (.inl ⟨rfl, rfl, rfl, rfl, by simp⟩)))
    · exact .inr (.inr (.inr (.inr ⟨rfl, rfl, rfl, rfl, by simp⟩)))
  · exact .inr (.inr (.inl ⟨rfl, rfl, rfl, by simp⟩))

set_option maxRecDepth 100000 in
set_option maxHeartbeats 2000000 in
theorem wrongImports_any (l : List Imp) (v : Value) (w : World) (hrow : RowOf 4 Imp.cell w.heap.size w v l) (hfit : ∀ e ∈ l, e.fits) (hl : l.length ≤ 6) :
    Calls Try.prog 66 #[v] w fun e w' => e = .returned (.int .i64 (chkImps [] l)) ∧ Below w.heap.size w w' := by
  obtain ⟨a, cap, rfl, _, hrow⟩ := hrow
  have hmm := @run_makeMap Try.prog
  go_enter Try.func66, Try.ntmps66
  go_wp2
  go_loopw [12] (fun i wr => ∃ (k : Nat) (D : DataW Unit), k ≤ l.length ∧ i = .int .i64 k ∧ wr.ownsMap Try.prog 111 (plainElem Try.prog 3) w.heap.size k D ∧ HasPairs D ((l.take k).map fun x => (x.mod, x.name)) ∧ Hid (chkImps [] l = chkImps ((l.take k).map fun x => (x.mod, x.name)) (l.drop k)) ∧ Below w.heap.size w wr) (fun i _ => l.length - (intOf i).toNat)
  case atStart => exact ⟨0, .map [], Nat.zero_le _, rfl, World.ownsMap_made _ _ _ _, HasPairs.none, by show chkImps [] l = chkImps [] (l.drop 0); rfl, (Below.refl _ _).alloc (Nat.le_refl _) _⟩
  case round =>
    obtain ⟨k, D, hk, rfl, hown, hD, HC, B⟩ := hrel
    by_cases hlt : k < l.length
    · obtain ⟨p, hp⟩ : ∃ p, l[k]? = some p := ⟨_, List.getElem?_eq_getElem hlt⟩
      rcases hrow with h | ⟨b, off, rfl, hbn, hcells⟩
      · subst h; simp at hlt
      obtain ⟨m, n, va, vb⟩ := p
      obtain ⟨hm, hn⟩ := hfit _ (List.mem_of_getElem? hp)
      dsimp only at hm hn
      have c0 := (B.cell (p := ⟨b, off + k * 4 + 0, none⟩) hbn).trans (hcells k _ hp 0 (by omega))
      have c1 := (B.cell (p := ⟨b, off + k * 4 + 1, none⟩) hbn).trans (hcells k _ hp 1 (by omega))
      have c2 := (B.cell (p := ⟨b, off + k * 4 + 2, none⟩) hbn).trans (hcells k _ hp 2 (by omega))
      have c3 := (B.cell (p := ⟨b, off + k * 4 + 3, none⟩) hbn).trans (hcells k _ hp 3 (by omega))
      dsimp only [Imp.cell] at c0 c1 c2 c3
      rw [Nat.add_zero] at c0
      obtain ⟨kl, hkey⟩ := pair_key m n hm hn
      have htk : ((l.take (k + 1)).map fun x => (x.mod, x.name)) = ((l.take k).map fun x => (x.mod, x.name)) ++ [(m, n)] := by rw [List.take_add_one, hp]; simp
      have HR : Hid (chkImps [] l = if impErr ((l.take k).map fun x => (x.mod, x.name)) ⟨m, n, va, vb⟩ = 0 then chkImps ((l.take (k + 1)).map fun x => (x.mod, x.name)) (l.drop (k + 1)) else impErr ((l.take k).map fun x => (x.mod, x.name)) ⟨m, n, va, vb⟩) := by
        show chkImps [] l = _
        rw [HC.out, drop_at hp, htk]; rfl
      have key := impErr_cases ((l.take k).map fun x => (x.mod, x.name)) m n va vb
      have hhas := hD m n kl hkey
      have HPUT : Hid (∀ d, HasPairs (D.put kl d) ((l.take (k + 1)).map fun x => (x.mod, x.name))) := fun d => by rw [htk]; exact hD.put hown.isMap m n kl hkey d
      clear HC hcells hp htk hD
      generalize impErr ((l.take k).map fun x => (x.mod, x.name)) ⟨m, n, va, vb⟩ = R at key HR
      generalize (((l.take k).map fun x => (x.mod, x.name)).any fun x => x.1 == m && x.2 == n) = T at key hhas
      have HK : Hid (keyOf Try.prog 111 (.agg #[.string m, .string n]) = some kl) := hkey
      clear hkey
      rcases key with ⟨h1, rfl⟩ | ⟨h1, h2, rfl⟩ | ⟨h1, h2, rfl, rfl⟩ | ⟨h1, h2, rfl, h3, rfl⟩ | ⟨h1, h2, rfl, h3, rfl⟩
      all_goals
        go_wp2_with (first
          | (at_lookup; refine wpList_lookup_own_ok_int _ rfl _ _ 109 rfl 111 3 .i64 lawP Try.underlying109 Try.underlying3 (zeroI _) w.heap.size k D rfl ((hown.kept (World.grownBy_alloc _ _ none) (by simp)).kept (World.grownBy_alloc _ _ none) (by simp)) _ _ rfl HK.out ?_; intro c hat hwc; clear hat hwc)
          | (at_mapUpdate; refine wpList_mapUpdate_own _ rfl _ _ _ 109 rfl 111 3 lawP Try.underlying109 _ w.heap.size k _ rfl ((hown.kept (World.grownBy_alloc _ _ none) (by simp)).kept (World.grownBy_alloc _ _ none) (by simp)) (by unfold maxLen; omega) _ _ _ rfl rfl HK.out _ [] (plainElem_int Try.underlying3 (WalkArith.wf_i64 (by omega))) ?_; intro w1 hown1 hgrow1)
          | (go_at_call 62; refine (isName_any _ _ (by assumption)).mono ?_; rintro e w' ⟨rfl, rfl⟩)
          | (go_at_call 63; refine (isVersion_any _ _ _).mono ?_; rintro e w' ⟨rfl, rfl⟩))
      case roundEnd =>
        exact ⟨⟨k + 1, _, by omega, by go_num, hown1, HPUT.out _, HR.out, ((B.alloc B.size _).alloc (by simp; have := B.size; omega) _).grown hgrow1 (by simp; have := B.size; omega) (fun j hj => by cases hj; exact Nat.le_refl _)⟩, by simp [intOf]; omega⟩
      all_goals
        go_ret
        exact ⟨by rw [HR.out]; rfl, (B.alloc B.size _).alloc (by simp; have := B.size; omega) _⟩
    · obtain rfl : k = l.length := by omega
      have HZ : Hid (chkImps [] l = 0) := by
        show chkImps [] l = 0
        rw [HC.out, List.drop_length]; rfl
      go_wp2
      go_ret
      exact ⟨by rw [HZ.out]; rfl, B⟩

end Go.Proofs.Ytaklbnabgcglhac

/- The contract of module.Check. -/
namespace Go.Proofs.Ytaklbnabgcglhac
open Go.RowKit Go.PlainAid

/-- A value that is this module, its slices below block n₀. -/
def IsMod (n₀ : Nat) (W : World) (v : Value) (M : Mod) : Prop :=
  ∃ ve vi vp, v = .agg #[.string M.name, .int .i64 M.major, .int .i64 M.minor, .string M.text, ve, vi, vp] ∧ RowOf 2 Exp.cell n₀ W ve M.exps ∧ RowOf 4 Imp.cell n₀ W vi M.imps ∧ RowOf 4 Pat.cell n₀ W vp M.pats
def Mod.fits (M : Mod) : Prop := M.name.size ≤ 9223372036854775807 ∧ M.text.size ≤ 9223372036854775807 ∧ (∀ e ∈ M.exps, e.name.size ≤ 9223372036854775807) ∧ ∀ i ∈ M.imps, i.fits

theorem IsMod.below {n₀ : Nat} {W W' : World} {v : Value} {M : Mod} (h : IsMod n₀ W v M) (hb : Below n₀ W W') : IsMod n₀ W' v M := by
  obtain ⟨ve, vi, vp, e, h1, h2, h3⟩ := h
  exact ⟨ve, vi, vp, e, h1.below hb, h2.below hb, h3.below hb⟩
theorem IsMod.more {n₀ n₁ : Nat} {W : World} {v : Value} {M : Mod} (h : IsMod n₀ W v M) (hn : n₀ ≤ n₁) : IsMod n₁ W v M := by
  obtain ⟨ve, vi, vp, e, h1, h2, h3⟩ := h
  exact ⟨ve, vi, vp, e, h1.more hn, h2.more hn, h3.more hn⟩

theorem bcell {W w1 : World} (hb : Below W.heap.size W w1) : (∀ b o, b < W.heap.size → w1.cell? ⟨b, o, none⟩ = W.cell? ⟨b, o, none⟩) ∧ (∀ b o, b < W.heap.size → w1.frozen? ⟨b, o, none⟩ = W.frozen? ⟨b, o, none⟩) :=
  ⟨fun b o h => hb.cell (p := ⟨b, o, none⟩) h, fun b o h => hb.frozen (p := ⟨b, o, none⟩) h⟩

def tooManyB (M : Mod) : Bool := decide (256 < (M.text.size : Int)) || decide (6 < (M.exps.length : Int)) || decide (6 < (M.imps.length : Int)) || decide (12 < (M.pats.length : Int))

set_option maxHeartbeats 1000000 in
theorem tooMany_any (N T : ByteArray) (a b : Int) (l1 l2 l3 : Nat) (p1 p2 p3 : Option Addr) (k1 k2 k3 : Nat) (w : World) :
    Calls Try.prog 64 #[.agg #[.string N, .int .i64 a, .int .i64 b, .string T, .slice p1 l1 k1, .slice p2 l2 k2, .slice p3 l3 k3]] w fun e w' =>
      e = .returned (.bool (decide (256 < (T.size : Int)) || decide (6 < (l1 : Int)) || decide (6 < (l2 : Int)) || decide (12 < (l3 : Int)))) ∧ Below w.heap.size w w' := by
  by_cases h1 : 256 < (T.size : Int)
  · rw [decide_eq_true h1]
    go_enter Try.func64, Try.ntmps64
    go_wp2
    go_ret
    exact ⟨rfl, (Below.refl _ _).alloc (Nat.le_refl _) _⟩
  have h1' : decide (256 < (T.size : Int)) = false := decide_eq_false h1
  have g1 : decide (256 < T.size) = false := decide_eq_false (by omega)
  rw [h1']
  by_cases h2 : 6 < (l1 : Int)
  · rw [decide_eq_true h2]
    go_enter Try.func64, Try.ntmps64
    go_wp2
    go_ret
    exact ⟨rfl, (Below.refl _ _).alloc (Nat.le_refl _) _⟩
  have h2' : decide (6 < (l1 : Int)) = false := decide_eq_false h2
  have g2 : decide (6 < l1) = false := decide_eq_false (by omega)
  rw [h2']
  by_cases h3 : 6 < (l2 : Int)
  · rw [decide_eq_true h3]
    go_enter Try.func64, Try.ntmps64
    go_wp2
    go_ret
    exact ⟨rfl, (Below.refl _ _).alloc (Nat.le_refl _) _⟩
  have h3' : decide (6 < (l2 : Int)) = false := decide_eq_false h3
  have g3 : decide (6 < l2) = false := decide_eq_false (by omega)
  rw [h3']
  by_cases h4 : 12 < (l3 : Int)
  · rw [decide_eq_true h4]
    go_enter Try.func64, Try.ntmps64
    go_wp2
    go_ret
    exact ⟨rfl, (Below.refl _ _).alloc (Nat.le_refl _) _⟩
  · have h4' : decide (12 < (l3 : Int)) = false := decide_eq_false h4
    have g4 : decide (12 < l3) = false := decide_eq_false (by omega)
    rw [h4']
    go_enter Try.func64, Try.ntmps64
    go_wp2
    go_ret
    exact ⟨rfl, (Below.refl _ _).alloc (Nat.le_refl _) _⟩

end Go.Proofs.Ytaklbnabgcglhac
