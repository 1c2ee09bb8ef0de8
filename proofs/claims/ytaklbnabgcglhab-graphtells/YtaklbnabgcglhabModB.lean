/- The contract of module.wrongExports. -/
import Derived.Test.YtaklbnabgcglhabModA
import Derived.Maps.OwnSet
namespace Go.Proofs.Ytaklbnabgcglhab
open Go.RowKit Go.PlainAid Go.Maps Go.WideMaps

theorem lawS : Keyed Try.prog 9 := string_keyed Try.underlying9
theorem zeroI (w : World) : (zeroValue 3).run Try.prog w = .ok (.int .i64 0) w := by kernel_rfl

theorem expErr_cases (most : Int) (met : List ByteArray) (n : ByteArray) (p : Int) :
    (isNm n = false ∧ expErr most met ⟨n, p⟩ = 1) ∨ (isNm n = true ∧ (met.any fun x => x == n) = true ∧ expErr most met ⟨n, p⟩ = 6) ∨
    (isNm n = true ∧ (met.any fun x => x == n) = false ∧ p < 0 ∧ expErr most met ⟨n, p⟩ = 3) ∨ (isNm n = true ∧ (met.any fun x => x == n) = false ∧ 0 ≤ p ∧ most ≤ p ∧ expErr most met ⟨n, p⟩ = 3) ∨
    (isNm n = true ∧ (met.any fun x => x == n) = false ∧ 0 ≤ p ∧ p < most ∧ expErr most met ⟨n, p⟩ = 0) := by
  unfold expErr
  dsimp only
  cases h1 : isNm n
  · exact .inl ⟨rfl, by simp⟩
  cases h2 : met.any fun x => x == n
  · by_cases h3 : p < 0
    · exact .inr (.inr (.inl ⟨rfl, rfl, h3, by rw [betw_false (n := p) (.inl h3)]; simp⟩))
    by_cases h4 : most ≤ p
    · exact .inr (.inr (.inr (.inl ⟨rfl, rfl, by omega, h4, by rw [betw_false (n := p) (.inr (by omega))]; simp⟩)))
    · exact .inr (.inr (.inr (.inr ⟨rfl, rfl, by omega, by omega, by rw [betw_true (n := p) (by omega) (by omega)]; simp⟩)))
  · exact .inr (.inl ⟨rfl, rfl, by simp⟩)

theorem ba_beq (x y : ByteArray) : (x == y) = true ↔ x = y := Go.MapKept.bytes_beq x y
theorem ba_bne {x y : ByteArray} (h : x ≠ y) : (x == y) = false := by
  cases e : x == y
  · rfl
  · exact absurd ((ba_beq x y).1 e) h
theorem ba_self (x : ByteArray) : (x == x) = true := (ba_beq x x).2 rfl
theorem lit_inj {x y : ByteArray} (h : Lit.string x.data.toList = Lit.string y.data.toList) : x = y := by
  injection h with h
  exact ByteArray.ext (Array.toList_inj.1 h)

/-- The map has just these names. -/
def HasNames (D : DataW Unit) (met : List ByteArray) : Prop := ∀ x : ByteArray, Maps.has D (.string x.data.toList) = met.any fun y => y == x
theorem HasNames.none : HasNames (.map []) [] := fun _ => rfl
theorem HasNames.put {D : DataW Unit} {met : List ByteArray} (h : HasNames D met) (hD : IsMap D) (n : ByteArray) (d : DataW Unit) : HasNames (D.put (.string n.data.toList) d) (met ++ [n]) := by
  intro x
  rw [List.any_append]
  by_cases e : x = n
  · subst e
    rw [has_put_same hD (show WideAt.IsKeyLit (.string x.data.toList) from trivial)]
    simp [ba_self]
  · rw [has_put_other (fun he => e (lit_inj he)), h x]
    have : (n == x) = false := ba_bne (fun he => e he.symm)
    simp [this]

set_option maxRecDepth 100000 in
set_option maxHeartbeats 2000000 in
theorem wrongExports_any (l : List Exp) (v : Value) (bytes : Int) (w : World) (hrow : RowOf 2 Exp.cell w.heap.size w v l) (hfit : ∀ e ∈ l, e.name.size ≤ 9223372036854775807) (hl : l.length ≤ 8) :
    Calls Try.prog 57 #[v, .int .i64 bytes] w fun e w' => e = .returned (.int .i64 (chkExps bytes [] l)) ∧ Below w.heap.size w w' := by
  obtain ⟨a, cap, rfl, _, hrow⟩ := hrow
  have hmm := @run_makeMap Try.prog
  go_enter Try.func57, Try.ntmps57
  go_wp2
  go_loopw [13] (fun i wr => ∃ (k : Nat) (D : DataW Unit), k ≤ l.length ∧ i = .int .i64 k ∧ wr.ownsMap Try.prog 9 (plainElem Try.prog 3) w.heap.size k D ∧ HasNames D ((l.take k).map (·.name)) ∧ Hid (chkExps bytes [] l = chkExps bytes ((l.take k).map (·.name)) (l.drop k)) ∧ Below w.heap.size w wr) (fun i _ => l.length - (intOf i).toNat)
  case atStart => exact ⟨0, .map [], Nat.zero_le _, rfl, World.ownsMap_made _ _ _ _, HasNames.none, by show chkExps bytes [] l = chkExps bytes [] (l.drop 0); rfl, (Below.refl _ _).alloc (Nat.le_refl _) _⟩
  case round =>
    obtain ⟨k, D, hk, rfl, hown, hD, HC, B⟩ := hrel
    by_cases hlt : k < l.length
    · obtain ⟨p, hp⟩ : ∃ p, l[k]? = some p := ⟨_, List.getElem?_eq_getElem hlt⟩
      rcases hrow with h | ⟨b, off, rfl, hbn, hcells⟩
      · subst h; simp at hlt
      obtain ⟨n, A⟩ := p
      have hn := hfit _ (List.mem_of_getElem? hp)
      dsimp only at hn
      have c0 := (B.cell (p := ⟨b, off + k * 2 + 0, none⟩) hbn).trans (hcells k _ hp 0 (by omega))
      have c1 := (B.cell (p := ⟨b, off + k * 2 + 1, none⟩) hbn).trans (hcells k _ hp 1 (by omega))
      dsimp only [Exp.cell] at c0 c1
      rw [Nat.add_zero] at c0
      have hkey : keyOf Try.prog 9 (.string n) = some (.string n.data.toList) := keyOf_string_mk Try.underlying9 hn
      have htk : (l.take (k + 1)).map (·.name) = (l.take k).map (·.name) ++ [n] := by rw [List.take_add_one, hp]; simp
      have HR : Hid (chkExps bytes [] l = if expErr bytes ((l.take k).map (·.name)) ⟨n, A⟩ = 0 then chkExps bytes ((l.take (k + 1)).map (·.name)) (l.drop (k + 1)) else expErr bytes ((l.take k).map (·.name)) ⟨n, A⟩) := by
        show chkExps bytes [] l = _
        rw [HC.out, drop_at hp, htk]; rfl
      have key := expErr_cases bytes ((l.take k).map (·.name)) n A
      have hhas := hD n
      have hput : ∀ d, HasNames (D.put (.string n.data.toList) d) ((l.take (k + 1)).map (·.name)) := fun d => by rw [htk]; exact hD.put hown.isMap n d
      clear HC hcells hp htk hD
      have HPUT : Hid (∀ d, HasNames (D.put (.string n.data.toList) d) ((l.take (k + 1)).map (·.name))) := hput
      clear hput
      generalize expErr bytes ((l.take k).map (·.name)) ⟨n, A⟩ = R at key HR
      generalize ((l.take k).map (·.name)).any (fun x => x == n) = T at key hhas
      rcases key with ⟨h1, rfl⟩ | ⟨h1, rfl, rfl⟩ | ⟨h1, rfl, h2, rfl⟩ | ⟨h1, rfl, h2, h3, rfl⟩ | ⟨h1, rfl, h2, h3, rfl⟩
      all_goals
        go_wp2_with (first
          | (at_lookup; refine wpList_lookup_own_ok_int _ rfl _ _ 125 rfl 9 3 .i64 lawS Try.underlying125 Try.underlying3 (zeroI _) w.heap.size k D rfl (hown.kept (World.grownBy_alloc _ _ none) (by simp)) _ _ rfl hkey ?_; intro c hat hwc; clear hat hwc)
          | (at_mapUpdate; refine wpList_mapUpdate_own _ rfl _ _ _ 125 rfl 9 3 lawS Try.underlying125 _ w.heap.size k _ rfl (hown.kept (World.grownBy_alloc _ _ none) (by simp)) (by unfold maxLen; omega) _ _ _ rfl rfl hkey _ [] (plainElem_int Try.underlying3 (WalkArith.wf_i64 (by omega))) ?_; intro w1 hown1 hgrow1)
          | (go_at_call 75; refine (isName_any _ _ (by assumption)).mono ?_; rintro e w' ⟨rfl, rfl⟩))
      case roundEnd =>
        exact ⟨⟨k + 1, _, by omega, by go_num, hown1, HPUT.out _, HR.out, (B.alloc B.size _).grown hgrow1 (by simp; have := B.size; omega) (fun j hj => by cases hj; exact Nat.le_refl _)⟩, by simp [intOf]; omega⟩
      all_goals
        go_ret
        exact ⟨by rw [HR.out]; rfl, B.alloc B.size _⟩
    · obtain rfl : k = l.length := by omega
      have HZ : Hid (chkExps bytes [] l = 0) := by
        show chkExps bytes [] l = 0
        rw [HC.out, List.drop_length]; rfl
      go_wp2
      go_ret
      exact ⟨by rw [HZ.out]; rfl, B⟩

end Go.Proofs.Ytaklbnabgcglhab
