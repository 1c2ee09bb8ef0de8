/- The contract of module.wrongImports. -/
import Derived.Test.YtaklbnabgcglhabModB
import Derived.DeepKeys4
namespace Go.Proofs.Ytaklbnabgcglhab
open Go.RowKit Go.PlainAid Go.Maps Go.WideMaps

set_option maxRecDepth 100000

theorem laidOut : laidOutB Try.prog = true := by kernel_rfl
theorem lawP : Keyed Try.prog 112 := Keyed.of_law (deep_law_laid laidOut (m := 8) (by decide) (of_decide_eq_true (by kernel_rfl)) (by kernel_rfl) (by rw [Try.underlying112]))

theorem pair_key (m n : ByteArray) (hm : m.size ≤ 9223372036854775807) (hn : n.size ≤ 9223372036854775807) : ∃ l, keyOf Try.prog 112 (.agg #[.string m, .string n]) = some l := by
  have hc : Try.prog.cellsOf 112 = 2 := by kernel_rfl
  have hs : Try.prog.cellsOf 9 = 1 := by kernel_rfl
  have hk : Try.prog.keyType 112 = true := by kernel_rfl
  have hm' : m.size ≤ maxLen := hm
  have hn' : n.size ≤ maxLen := hn
  have e : ∀ d, Try.prog.keyLits (d + 1 + 1) 112 [.string m, .string n] = some [.string m.data.toList, .string n.data.toList] := by
    intro d
    simp [Program.keyLits, Try.underlying112, Try.underlying9, hc, hs, hm', hn']
  unfold keyOf
  rw [Try.underlying112]
  simp [hk, Value.formed, Try.underlying112, hc, Value.cells]
  exact ⟨_, _, e _, rfl⟩

/-- The map has just these pairs. -/
def HasPairs (D : DataW Unit) (met : List (ByteArray × ByteArray)) : Prop := ∀ m n l, keyOf Try.prog 112 (.agg #[.string m, .string n]) = some l → Maps.has D l = met.any fun x => x.1 == m && x.2 == n
theorem HasPairs.none : HasPairs (.map []) [] := fun _ _ _ _ => rfl
theorem HasPairs.put {D : DataW Unit} {met : List (ByteArray × ByteArray)} (h : HasPairs D met) (hD : IsMap D) (m n : ByteArray) (l : Lit) (hl : keyOf Try.prog 112 (.agg #[.string m, .string n]) = some l) (d : DataW Unit) : HasPairs (D.put l d) (met ++ [(m, n)]) := by
  intro m' n' l' hl'
  rw [List.any_append]
  by_cases e : l' = l
  · subst e
    have := lawP.inj hl hl'
    injection this with this
    have e2 := congrArg Array.toList this
    simp at e2
    obtain ⟨rfl, rfl⟩ := e2
    rw [has_put_same hD (lawP.key hl)]
    simp [ba_self]
  · rw [has_put_other e, h m' n' l' hl']
    have : (m == m' && n == n') = false := by
      cases e1 : m == m'
      · rfl
      · cases e2 : n == n'
        · rfl
        · rw [ba_beq] at e1 e2
          subst e1; subst e2
          rw [hl] at hl'
          exact absurd (Option.some.inj hl').symm e
    simp [this]

theorem impErr_cases (met : List (ByteArray × ByteArray)) (m n : ByteArray) (a b : Int) :
    (isNm m = false ∧ impErr met ⟨m, n, a, b⟩ = 1) ∨ (isNm m = true ∧ isNm n = false ∧ impErr met ⟨m, n, a, b⟩ = 1) ∨ (isNm m = true ∧ isNm n = true ∧ (met.any fun x => x.1 == m && x.2 == n) = true ∧ impErr met ⟨m, n, a, b⟩ = 6) ∨
    (isNm m = true ∧ isNm n = true ∧ (met.any fun x => x.1 == m && x.2 == n) = false ∧ isVer a b = false ∧ impErr met ⟨m, n, a, b⟩ = 3) ∨ (isNm m = true ∧ isNm n = true ∧ (met.any fun x => x.1 == m && x.2 == n) = false ∧ isVer a b = true ∧ impErr met ⟨m, n, a, b⟩ = 0) := by
  unfold impErr
  dsimp only
  cases h1 : isNm m
  · exact .inl ⟨rfl, by simp⟩
  cases h2 : isNm n
  · exact .inr (.inl ⟨rfl, rfl, by simp⟩)
  cases h3 : met.any fun x => x.1 == m && x.2 == n
  · cases h4 : isVer a b
    · exact .inr (.inr (.inr (.inl ⟨rfl, rfl, rfl, rfl, by simp⟩)))
    · exact .inr (.inr (.inr (.inr ⟨rfl, rfl, rfl, rfl, by simp⟩)))
  · exact .inr (.inr (.inl ⟨rfl, rfl, rfl, by simp⟩))

set_option maxRecDepth 100000 in
set_option maxHeartbeats 2000000 in
theorem wrongImports_any (l : List Imp) (v : Value) (w : World) (hrow : RowOf 4 Imp.cell w.heap.size w v l) (hfit : ∀ e ∈ l, e.fits) (hl : l.length ≤ 6) :
    Calls Try.prog 44 #[v] w fun e w' => e = .returned (.int .i64 (chkImps [] l)) ∧ Below w.heap.size w w' := by
  obtain ⟨a, cap, rfl, _, hrow⟩ := hrow
  have hmm := @run_makeMap Try.prog
  go_enter Try.func44, Try.ntmps44
  go_wp2
  go_loopw [12] (fun i wr => ∃ (k : Nat) (D : DataW Unit), k ≤ l.length ∧ i = .int .i64 k ∧ wr.ownsMap Try.prog 112 (plainElem Try.prog 3) w.heap.size k D ∧ HasPairs D ((l.take k).map fun x => (x.mod, x.name)) ∧ Hid (chkImps [] l = chkImps ((l.take k).map fun x => (x.mod, x.name)) (l.drop k)) ∧ Below w.heap.size w wr) (fun i _ => l.length - (intOf i).toNat)
  case atStart => exact ⟨0, .map [], Nat.zero_le _, rfl, World.ownsMap_made _ _ _ _, HasPairs.none, by show chkImps [] l = chkImps [] (l.drop 0); rfl, (Below.refl _ _).alloc (Nat.le_refl _) _⟩
  case round =>
    obtain ⟨k, D, hk, rfl, hown, hD, HC, B⟩ := hrel
    by_cases hlt : k < l.length
    · obtain ⟨p, hp⟩ : ∃ p, l[k]? = some p := ⟨_, List.getElem?_eq_getElem hlt⟩
      rcases hrow with h | ⟨b, off, rfl, hbn, hcells⟩
      · subst h; simp at hlt
      obtain ⟨m, n, va, vb⟩ := p
      obtain ⟨hm, hn⟩ := hfit _ (List.mem_of_getElem? hp)
      dsimp only at hm hn
      have c0 := (B.cell (p := ⟨b, off + k * 4 + 0, none⟩) hbn).trans (hcells k _ hp 0 (by omega))
      have c1 := (B.cell (p := ⟨b, off + k * 4 + 1, none⟩) hbn).trans (hcells k _ hp 1 (by omega))
      have c2 := (B.cell (p := ⟨b, off + k * 4 + 2, none⟩) hbn).trans (hcells k _ hp 2 (by omega))
      have c3 := (B.cell (p := ⟨b, off + k * 4 + 3, none⟩) hbn).trans (hcells k _ hp 3 (by omega))
      dsimp only [Imp.cell] at c0 c1 c2 c3
      rw [Nat.add_zero] at c0
      obtain ⟨kl, hkey⟩ := pair_key m n hm hn
      have htk : ((l.take (k + 1)).map fun x => (x.mod, x.name)) = ((l.take k).map fun x => (x.mod, x.name)) ++ [(m, n)] := by rw [List.take_add_one, hp]; simp
      have HR : Hid (chkImps [] l = if impErr ((l.take k).map fun x => (x.mod, x.name)) ⟨m, n, va, vb⟩ = 0 then chkImps ((l.take (k + 1)).map fun x => (x.mod, x.name)) (l.drop (k + 1)) else impErr ((l.take k).map fun x => (x.mod, x.name)) ⟨m, n, va, vb⟩) := by
        show chkImps [] l = _
        rw [HC.out, drop_at hp, htk]; rfl
      have key := impErr_cases ((l.take k).map fun x => (x.mod, x.name)) m n va vb
      have hhas := hD m n kl hkey
      have HPUT : Hid (∀ d, HasPairs (D.put kl d) ((l.take (k + 1)).map fun x => (x.mod, x.name))) := fun d => by rw [htk]; exact hD.put hown.isMap m n kl hkey d
      clear HC hcells hp htk hD
      generalize impErr ((l.take k).map fun x => (x.mod, x.name)) ⟨m, n, va, vb⟩ = R at key HR
      generalize (((l.take k).map fun x => (x.mod, x.name)).any fun x => x.1 == m && x.2 == n) = T at key hhas
      have HK : Hid (keyOf Try.prog 112 (.agg #[.string m, .string n]) = some kl) := hkey
      clear hkey
      rcases key with ⟨h1, rfl⟩ | ⟨h1, h2, rfl⟩ | ⟨h1, h2, rfl, rfl⟩ | ⟨h1, h2, rfl, h3, rfl⟩ | ⟨h1, h2, rfl, h3, rfl⟩
      all_goals
        go_wp2_with (first
          | (at_lookup; refine wpList_lookup_own_ok_int _ rfl _ _ 110 rfl 112 3 .i64 lawP Try.underlying110 Try.underlying3 (zeroI _) w.heap.size k D rfl ((hown.kept (World.grownBy_alloc _ _ none) (by simp)).kept (World.grownBy_alloc _ _ none) (by simp)) _ _ rfl HK.out ?_; intro c hat hwc; clear hat hwc)
          | (at_mapUpdate; refine wpList_mapUpdate_own _ rfl _ _ _ 110 rfl 112 3 lawP Try.underlying110 _ w.heap.size k _ rfl ((hown.kept (World.grownBy_alloc _ _ none) (by simp)).kept (World.grownBy_alloc _ _ none) (by simp)) (by unfold maxLen; omega) _ _ _ rfl rfl HK.out _ [] (plainElem_int Try.underlying3 (WalkArith.wf_i64 (by omega))) ?_; intro w1 hown1 hgrow1)
          | (go_at_call 75; refine (isName_any _ _ (by assumption)).mono ?_; rintro e w' ⟨rfl, rfl⟩)
          | (go_at_call 56; refine (isVersion_any _ _ _).mono ?_; rintro e w' ⟨rfl, rfl⟩))
      case roundEnd =>
        exact ⟨⟨k + 1, _, by omega, by go_num, hown1, HPUT.out _, HR.out, ((B.alloc B.size _).alloc (by simp; have := B.size; omega) _).grown hgrow1 (by simp; have := B.size; omega) (fun j hj => by cases hj; exact Nat.le_refl _)⟩, by simp [intOf]; omega⟩
      all_goals
        go_ret
        exact ⟨by rw [HR.out]; rfl, (B.alloc B.size _).alloc (by simp; have := B.size; omega) _⟩
    · obtain rfl : k = l.length := by omega
      have HZ : Hid (chkImps [] l = 0) := by
        show chkImps [] l = 0
        rw [HC.out, List.drop_length]; rfl
      go_wp2
      go_ret
      exact ⟨by rw [HZ.out]; rfl, B⟩

end Go.Proofs.Ytaklbnabgcglhab
