/- Texts that are laid together. -/
import Derived.Test.YthmohjgdcjafkagMrgO
import Derived.Test.YthmohjgdcjafkagMrgQ
import Derived.Test.YthmohjgdcjafkagMrgN

/- The contracts of package journal's placeFor, Open and Format. -/
namespace Go.Proofs.Ythmohjgdcjafkag
open Go.RowKit Go.PlainAid Go.Lib

set_option maxRecDepth 100000

/-- Where a record is to be written, or why it can't be. -/
def placeRes (a s : ByteArray) : Nat × Int :=
  if s.size = 0 then (0, 1) else if 800 < s.size then (0, 2) else if (lookB a).2.2 ≠ 0 then (0, (lookB a).2.2) else if a.size < (lookB a).2.1 + (3 + s.size) then (0, 8) else ((lookB a).2.1, 0)

set_option maxHeartbeats 4000000 in
theorem placeFor_any (a s : ByteArray) (w : World) (ha : a.size ≤ 4096) (hs : s.size ≤ 9223372036854775807) :
    Calls Try.prog 24 #[.string a, .string s] w fun e w' => e = .returned (.tuple #[.int .i64 ((placeRes a s).1 : Int), .int .i64 (placeRes a s).2]) ∧ Below w.heap.size w w' := by
  have HL : Hid (∀ W, Calls Try.prog 29 #[.string a] W fun e w' => (∃ v, e = .returned (.tuple #[v, .int .i64 ((lookB a).2.1 : Int), .int .i64 (lookB a).2.2]) ∧ w'.ownsRow W.heap.size 9 1 v (lookB a).1.length ((lookB a).1.flatMap strC)) ∧ Below W.heap.size W w') := fun W => look_any a W ha
  have hend := lookB_end a
  obtain ⟨R, hR⟩ : ∃ R, R = placeRes a s := ⟨_, rfl⟩
  rw [← hR]
  unfold placeRes at hR
  generalize lookB a = L at *
  obtain ⟨ts, en, er⟩ := L
  dsimp only at *
  by_cases h0 : s.size = 0
  · rw [if_pos h0] at hR
    subst hR
    obtain rfl : s = ⟨#[]⟩ := ByteArray.ext (Array.eq_empty_of_size_eq_zero h0)
    clear HL
    go_enter Try.func24, Try.ntmps24
    go_wp2
    go_ret2
    exact ⟨rfl, Below.refl _ _⟩
  rw [if_neg h0] at hR
  have hne : s.toList.isEmpty = false := by
    rw [ByteArray.toList_eq]
    cases hc : s.data.toList.isEmpty with
    | false => rfl
    | true => exact absurd (show s.data.size = 0 by rw [← Array.length_toList, List.isEmpty_iff.1 hc]; rfl) h0
  by_cases h8 : 800 < s.size
  · rw [if_pos h8] at hR
    have h8' : (800 : Int) < (s.size : Int) := by omega
    clear HL
    subst hR
    go_enter Try.func24, Try.ntmps24
    go_wp2
    go_ret2
    exact ⟨rfl, Below.refl _ _⟩
  rw [if_neg h8] at hR
  have h8' : ¬ (800 : Int) < (s.size : Int) := by omega
  by_cases he : er ≠ 0
  · rw [if_pos he] at hR
    subst hR
    have he' : (er != 0) = true := by simpa using he
    clear he
    go_enter Try.func24, Try.ntmps24
    go_wp2_with fail
    refine (HL.out _).mono ?_
    rintro e w2 ⟨⟨v, rfl, _⟩, b⟩
    have HB : Hid (Below w.heap.size w w2) := b
    clear b HL
    go_wp2
    go_ret2
    exact ⟨rfl, HB.out⟩
  rw [if_neg he] at hR
  obtain rfl : er = 0 := Decidable.not_not.1 he
  have ew1 : wrap64 (3 + (s.size : Int)) = 3 + (s.size : Int) := by unfold wrap64; omega
  have ew2 : wrap64 ((a.size : Int) - (en : Int)) = (a.size : Int) - en := by unfold wrap64; omega
  by_cases hsp : a.size < en + (3 + s.size)
  · rw [if_pos hsp] at hR
    subst hR
    have hsp' : (a.size : Int) - en < 3 + (s.size : Int) := by omega
    clear he
    go_enter Try.func24, Try.ntmps24
    go_wp2_with fail
    refine (HL.out _).mono ?_
    rintro e w2 ⟨⟨v, rfl, _⟩, b⟩
    have HB : Hid (Below w.heap.size w w2) := b
    clear b HL
    go_wp2
    go_ret2
    exact ⟨rfl, HB.out⟩
  · rw [if_neg hsp] at hR
    subst hR
    have hsp' : ¬ (a.size : Int) - en < 3 + (s.size : Int) := by omega
    clear he
    go_enter Try.func24, Try.ntmps24
    go_wp2_with fail
    refine (HL.out _).mono ?_
    rintro e w2 ⟨⟨v, rfl, _⟩, b⟩
    have HB : Hid (Below w.heap.size w w2) := b
    clear b HL
    go_wp2
    go_ret2
    exact ⟨rfl, HB.out⟩

/-- The records of a flash. -/
def openRes (F : List ByteArray) : List ByteArray × Int := if chkFl F ≠ 0 then ([], chkFl F) else ((lookB ⟨(joinM F).toArray⟩).1, (lookB ⟨(joinM F).toArray⟩).2.2)

set_option maxHeartbeats 4000000 in
theorem open_any (F : List ByteArray) (v : Value) (w : World) (hF : IsFl w.heap.size w v F) :
    Calls Try.prog 15 #[.agg #[v]] w fun e w' => (∃ r, e = .returned (.tuple #[r, .int .i64 (openRes F).2]) ∧ w'.ownsRow w.heap.size 9 1 r (openRes F).1.length ((openRes F).1.flatMap strC)) ∧ Below w.heap.size w w' := by
  have HBY : Hid (∀ v W, IsFl W.heap.size W v F → Calls Try.prog 23 #[.agg #[v]] W fun e w' => e = .returned (.tuple #[.string (bytesRes F).1, .int .i64 (bytesRes F).2]) ∧ Below W.heap.size W w') := fun v W h => bytesOf_any F v W h
  obtain ⟨⟨a, cap, rfl, _, _⟩, _⟩ := id hF
  have HB1 : Hid (Below w.heap.size w (w.alloc (.cells #[.slice a F.length cap] 26))) := (Below.refl _ _).alloc (Nat.le_refl _) _
  have HR1 : Hid (CellsAt (w.alloc (.cells #[.slice a F.length cap] 26)) w.heap.size 26 #[.slice a F.length cap]) := CellsAt.new _ _ _
  have HF1 : Hid (IsFl (w.alloc (.cells #[.slice a F.length cap] 26)).heap.size (w.alloc (.cells #[.slice a F.length cap] 26)) (.slice a F.length cap) F) := (hF.below HB1.out).more HB1.out.size
  clear hF
  by_cases h : chkFl F ≠ 0
  · rw [show openRes F = ([], chkFl F) from if_pos h]
    rw [show bytesRes F = (⟨#[]⟩, chkFl F) from if_pos h] at HBY
    have h' : (chkFl F != 0) = true := by simpa using h
    clear h
    generalize chkFl F = E at *
    go_enter Try.func15, Try.ntmps15
    have r0 := HR1.out.cell 0
    have rl := HR1.out.lt
    simp at r0
    go_wp2_with fail
    refine (HBY.out _ _ HF1.out).mono ?_
    rintro e w2 ⟨rfl, b⟩
    have HB2 : Hid (Below w.heap.size w w2) := HB1.out.trans (b.mono HB1.out.size)
    clear HB1 HR1 HF1 b r0 rl HBY
    go_wp2
    go_ret2
    exact ⟨⟨_, rfl, World.ownsRow_nil _ _ _ _⟩, HB2.out⟩
  · rw [show openRes F = ((lookB ⟨(joinM F).toArray⟩).1, (lookB ⟨(joinM F).toArray⟩).2.2) from if_neg h]
    rw [show bytesRes F = (⟨(joinM F).toArray⟩, 0) from if_neg h] at HBY
    have hbd := joinM_bound (Decidable.not_not.1 h)
    have HLK : Hid (∀ W, Calls Try.prog 29 #[.string ⟨(joinM F).toArray⟩] W fun e w' => (∃ v, e = .returned (.tuple #[v, .int .i64 ((lookB ⟨(joinM F).toArray⟩).2.1 : Int), .int .i64 (lookB ⟨(joinM F).toArray⟩).2.2]) ∧ w'.ownsRow W.heap.size 9 1 v (lookB ⟨(joinM F).toArray⟩).1.length ((lookB ⟨(joinM F).toArray⟩).1.flatMap strC)) ∧ Below W.heap.size W w') := fun W => look_any _ W (by simp [ByteArray.size]; omega)
    clear h hbd
    generalize (⟨(joinM F).toArray⟩ : ByteArray) = S at *
    generalize lookB S = L at *
    obtain ⟨ts, en, er⟩ := L
    dsimp only at *
    go_enter Try.func15, Try.ntmps15
    have r0 := HR1.out.cell 0
    have rl := HR1.out.lt
    simp at r0
    go_wp2_with fail
    refine (HBY.out _ _ HF1.out).mono ?_
    rintro e w2 ⟨rfl, b⟩
    have HB2 : Hid (Below w.heap.size w w2) := HB1.out.trans (b.mono HB1.out.size)
    clear HB1 HR1 HF1 b r0 rl HBY
    go_wp2_with fail
    refine (HLK.out _).mono ?_
    rintro e w3 ⟨⟨r, rfl, hown⟩, b⟩
    have HB3 : Hid (Below w.heap.size w w3) := HB2.out.trans (b.mono HB2.out.size)
    have HO : Hid (w3.ownsRow w.heap.size 9 1 r ts.length (ts.flatMap strC)) := ⟨hown.1, hown.2.imp id (fun ⟨g, cap, cur, h1, h2, h3⟩ => ⟨g, cap, cur, h1, Nat.le_trans HB2.out.size h2, h3⟩)⟩
    clear HB2 b hown HLK
    go_wp2
    go_ret2
    exact ⟨⟨_, rfl, HO.out⟩, HB3.out⟩

end Go.Proofs.Ythmohjgdcjafkag

/- The contract of the function that package journal's deeds calls for each deed. -/
namespace Go.Proofs.Ythmohjgdcjafkag
open Go.RowKit Go.PlainAid Go.Lib

set_option maxRecDepth 100000

theorem infoDeed : (Try.prog.info? 40).map (fun i => (i.zero, i.size, i.bytes)) = some (some (.agg #[.int .i64 0, .int .i64 0, .int .i64 0]), 3, 24) := by kernel_rfl
theorem infoDeed_parts : ∃ i, Try.prog.info? 40 = some i ∧ i.zero = some (.agg #[.int .i64 0, .int .i64 0, .int .i64 0]) ∧ i.size = 3 ∧ i.bytes = 24 := by
  have h := infoDeed
  cases hi : Try.prog.info? 40 with
  | none => rw [hi] at h; cases h
  | some i =>
    rw [hi] at h
    simp at h
    exact ⟨i, rfl, h.1, h.2.1, h.2.2⟩

set_option maxHeartbeats 4000000 in
theorem deedPut_any (B base m : Nat) (v : Value) (l : List Deed) (q x : Int) (w : World) (HC0 : CellsAt w B 32 #[v]) (HO0 : w.ownsRow base 40 3 v l.length (l.flatMap deedC)) (hl : l.length ≤ 900) (hB : ∀ k, v.ownBlock = some k → k ≠ B) (hbs : base ≤ w.heap.size) (hx0 : 0 ≤ x) (hx : x < 256) (hm : m ≤ B) (hm2 : m ≤ base) :
    Calls Try.prog 37 #[.int .i64 q, .int .u8 x, .pointer (some ⟨B, 0, none⟩)] w fun e w' => e = .returned (.tuple #[]) ∧ (∃ v', CellsAt w' B 32 #[v'] ∧ w'.ownsRow base 40 3 v' (l ++ [(⟨1, q, x⟩ : Deed)]).length ((l ++ [(⟨1, q, x⟩ : Deed)]).flatMap deedC) ∧ ∀ k, v'.ownBlock = some k → k ≠ B) ∧ Below m w w' := by
  obtain ⟨is, his, hs0, hs1, hs2⟩ := infoDeed_parts
  obtain ⟨av, kv, rfl⟩ := own_form HO0
  have HO : Hid (w.ownsRow base 40 3 (.slice av l.length kv) l.length (l.flatMap deedC)) := HO0
  have HUN : Hid (∀ k, (Value.slice av l.length kv).ownBlock = some k → base ≤ k) := own_block HO0
  have HNE : Hid (∀ k, (Value.slice av l.length kv).ownBlock = some k → k ≠ B) := hB
  clear hB
  have HA1 : Hid (CellsAt (w.alloc (.cells #[.int .i64 1, .int .i64 q, .int .i64 x] 40)) w.heap.size 40 #[.int .i64 1, .int .i64 q, .int .i64 x]) := CellsAt.new _ _ _
  have HCA : Hid (CellsAt (w.alloc (.cells #[.int .i64 1, .int .i64 q, .int .i64 x] 40)) B 32 #[.slice av l.length kv]) := HC0.kept (World.grownBy_alloc _ _ none) (by simp)
  have HBA : Hid (Below m w (w.alloc (.cells #[.int .i64 1, .int .i64 q, .int .i64 x] 40))) := (Below.refl _ _).alloc (by omega) _
  have HRP : Hid (l.flatMap deedC ++ [.int .i64 1, .int .i64 q, .int .i64 x] = (l ++ [(⟨1, q, x⟩ : Deed)]).flatMap deedC) := by
    show _ = _
    rw [List.flatMap_append]; rfl
  have HLN : Hid ((l ++ [(⟨1, q, x⟩ : Deed)]).length = l.length + 1) := by
    show _ = _
    rw [List.length_append, List.length_singleton]
  have c0 := HC0.cell 0
  have cl := HC0.lt
  simp at c0
  have ew : wrap64 x = x := by unfold wrap64; omega
  clear HC0 HO0
  go_enter Try.func37, Try.ntmps37
  go_wp2_with (at_builtin; refine wpList_append_lies _ rfl _ _ _ rfl base 40 is _ 3 24 Try.underlying32 his hs0 hs1 hs2 rfl (by omega) (.slice av l.length kv) l.length (l.flatMap deedC) rfl (HO.out.alloc _) ⟨w.heap.size, 0, none⟩ 1 1 [.int .i64 1, .int .i64 q, .int .i64 x] rfl rfl (World.news_of_block (cs := #[.int .i64 1, .int .i64 q, .int .i64 x]) (t := 40) (fr := (0, 0)) HA1.out) (by simp [Value.oneCell']) (by omega) (by unfold maxLen; omega) (by omega) (by simp; omega) (w.heap.size + 1) (by simp) ?_; intro g gc w8 hown8 hgrow hat hltg; have z8 := HCA.out.kept hgrow (fun e => HNE.out _ e.symm rfl); have z0 := z8.cell 0; have zf := z8.frozen 0; have zl := z8.lt; simp at z0)
  have hgB : g ≠ B := by
    rcases hat with h | h
    · exact HNE.out g h
    · omega
  have hO8 := hown8.kept (grown_set w8 B 0 (.slice (some ⟨g, 0, none⟩) (l.length + 1) gc)) (.inr (fun e => hgB (by simpa [Value.ownBlock] using e)))
  rw [HRP.out] at hO8
  have hV8 := z8.set 0 (.slice (some ⟨g, 0, none⟩) (l.length + 1) gc)
  simp only [List.setIfInBounds_toArray, List.set_cons_zero] at hV8
  have hB8 := (HBA.out.grown hgrow (by simp; omega) (fun q hq => by have := HUN.out q hq; omega)).setCell (p := ⟨B, 0, none⟩) (by simp; omega) (.slice (some ⟨g, 0, none⟩) (l.length + 1) gc)
  go_end0
  rw [HLN.out]
  exact ⟨rfl, ⟨_, hV8, hO8, fun k e => by
    obtain rfl : g = k := by simpa [Value.ownBlock] using e
    exact hgB⟩, hB8⟩

end Go.Proofs.Ythmohjgdcjafkag

/- The contract of package journal's deeds. -/
namespace Go.Proofs.Ythmohjgdcjafkag
open Go.RowKit Go.PlainAid Go.Lib

set_option maxRecDepth 100000

/-- The deeds that write a record from a place on. -/
def headOf (q n : Nat) : List Deed := [] ++ [⟨1, (q : Int), (n : Int) % 256⟩] ++ [⟨1, (q : Int) + 1, (n : Int) / 256⟩] ++ [⟨1, (q : Int) + 2, 254⟩]
def bodyOf (q : Nat) (s : ByteArray) (j : Nat) : List Deed := (List.range j).map fun (i : Nat) => ⟨1, (q : Int) + 3 + i, ((at8 s i).toNat : Int)⟩
def deedsOf (q : Nat) (s : ByteArray) : List Deed := headOf q s.size ++ bodyOf q s s.size ++ [⟨1, (q : Int) + 2, 252⟩]
theorem bodyOf_next (q : Nat) (s : ByteArray) (j : Nat) : bodyOf q s (j + 1) = bodyOf q s j ++ [⟨1, (q : Int) + 3 + j, ((at8 s j).toNat : Int)⟩] := by
  unfold bodyOf
  rw [List.range_succ, List.map_append]
  rfl
theorem body_length (q n : Nat) (s : ByteArray) (j : Nat) : (headOf q n ++ bodyOf q s j).length = 3 + j := by
  simp [headOf, bodyOf]
  omega

set_option maxHeartbeats 8000000 in
theorem deeds_any (q : Nat) (s : ByteArray) (w : World) (hq : q ≤ 4096) (hs : s.size ≤ 800) :
    Calls Try.prog 25 #[.int .i64 (q : Int), .string s] w fun e w' => (∃ r, e = .returned r ∧ w'.ownsRow w.heap.size 40 3 r (deedsOf q s).length ((deedsOf q s).flatMap deedC)) ∧ Below w.heap.size w w' := by
  obtain ⟨is, his, hs0, hs1, hs2⟩ := infoDeed_parts
  obtain ⟨R, hR⟩ : ∃ R, R = deedsOf q s := ⟨_, rfl⟩
  rw [← hR]
  obtain ⟨n, hn⟩ : ∃ n, n = s.size := ⟨_, rfl⟩
  have hsz : s.size = n := hn.symm
  have ew : wrap64 (4 + (n : Int)) = ((4 + n : Nat) : Int) := by unfold wrap64; omega
  rw [hsz] at hs
  clear hn
  go_enter Try.func25, Try.ntmps25
  go_wp2_with (at_make; refine wpList_make_own _ rfl _ _ _ rfl w.heap.size 40 is _ 3 Try.underlying32 his hs0 hs1 .i64 .i64 _ (4 + n) rfl rfl (by omega) (by rw [hs2]; omega) (by unfold maxLen; omega) (Nat.le_refl _) ?_; intro w3 hown3 hgr3)
  have hBl := own_lt hown3
  have HB : Hid (Below w.heap.size w (w3.alloc (.cells #[.slice (some ⟨w.heap.size, 0, none⟩) 0 (4 + n)] 32))) := ((Below.refl _ _).grown hgr3 (Nat.le_refl _) (fun k e => by cases e)).alloc (by omega) _
  have HC : Hid (CellsAt (w3.alloc (.cells #[.slice (some ⟨w.heap.size, 0, none⟩) 0 (4 + n)] 32)) w3.heap.size 32 #[.slice (some ⟨w.heap.size, 0, none⟩) 0 (4 + n)]) := CellsAt.new _ _ _
  have HO : Hid ((w3.alloc (.cells #[.slice (some ⟨w.heap.size, 0, none⟩) 0 (4 + n)] 32)).ownsRow w.heap.size 40 3 (.slice (some ⟨w.heap.size, 0, none⟩) 0 (4 + n)) ([] : List Deed).length (([] : List Deed).flatMap deedC)) := hown3.alloc _
  have HN : Hid (∀ k, (Value.slice (some ⟨w.heap.size, 0, none⟩) 0 (4 + n)).ownBlock = some k → k ≠ w3.heap.size) := fun k e => by
    have : w.heap.size = k := by simpa [Value.ownBlock] using e
    omega
  have HBS : Hid (w.heap.size ≤ (w3.alloc (.cells #[.slice (some ⟨w.heap.size, 0, none⟩) 0 (4 + n)] 32)).heap.size) := HB.out.size
  have HBB : Hid (w.heap.size ≤ w3.heap.size) := by show _ ≤ _; omega
  clear hown3 hgr3 hBl
  generalize (w3.alloc (.cells #[.slice (some ⟨w.heap.size, 0, none⟩) 0 (4 + n)] 32)) = w4 at *
  generalize w3.heap.size = B at *
  have HPUT : Hid (∀ (v : Value) (l : List Deed) (q x : Int) W, CellsAt W B 32 #[v] → W.ownsRow w.heap.size 40 3 v l.length (l.flatMap deedC) → l.length ≤ 900 → (∀ k, v.ownBlock = some k → k ≠ B) → w.heap.size ≤ W.heap.size → 0 ≤ x → x < 256 → Calls Try.prog 37 #[.int .i64 q, .int .u8 x, .pointer (some ⟨B, 0, none⟩)] W fun e w' => e = .returned (.tuple #[]) ∧ (∃ v', CellsAt w' B 32 #[v'] ∧ w'.ownsRow w.heap.size 40 3 v' (l ++ [(⟨1, q, x⟩ : Deed)]).length ((l ++ [(⟨1, q, x⟩ : Deed)]).flatMap deedC) ∧ ∀ k, v'.ownBlock = some k → k ≠ B) ∧ Below w.heap.size W w') := fun v l q x W a1 a2 a3 a4 a5 a6 a7 => deedPut_any B w.heap.size w.heap.size v l q x W a1 a2 a3 a4 a5 a6 a7 HBB.out (Nat.le_refl _)
  refine (HPUT.out _ ([]) _ _ _ HC.out HO.out (by first | (simp; done) | (simp; omega)) HN.out HBS.out (by omega) (by omega)).mono ?_
  rintro e w5 ⟨rfl, ⟨vw5, hc, ho, hn⟩, b⟩
  replace HB : Hid (Below w.heap.size w w5) := HB.out.trans b
  replace HBS : Hid (w.heap.size ≤ w5.heap.size) := HB.out.size
  replace HC : Hid _ := hc
  replace HN : Hid _ := hn
  replace HO : Hid _ := ho
  clear hc hn ho b
  go_wp2_with fail
  refine (HPUT.out _ _ _ _ _ HC.out HO.out (by simp) HN.out HBS.out (by omega) (by omega)).mono ?_
  rintro e w6 ⟨rfl, ⟨vw6, hc, ho, hn⟩, b⟩
  replace HB : Hid (Below w.heap.size w w6) := HB.out.trans b
  replace HBS : Hid (w.heap.size ≤ w6.heap.size) := HB.out.size
  replace HC : Hid _ := hc
  replace HN : Hid _ := hn
  replace HO : Hid _ := ho
  clear hc hn ho b
  go_wp2_with fail
  refine (HPUT.out _ _ _ _ _ HC.out HO.out (by simp) HN.out HBS.out (by omega) (by omega)).mono ?_
  rintro e w7 ⟨rfl, ⟨vw7, hc, ho, hn⟩, b⟩
  replace HB : Hid (Below w.heap.size w w7) := HB.out.trans b
  replace HBS : Hid (w.heap.size ≤ w7.heap.size) := HB.out.size
  replace HC : Hid _ := hc
  replace HN : Hid _ := hn
  replace HO : Hid _ := ho
  clear hc hn ho b
  have HO2 : Hid (w7.ownsRow w.heap.size 40 3 vw7 (headOf q n ++ bodyOf q s 0).length ((headOf q n ++ bodyOf q s 0).flatMap deedC)) := by
    have := HO.out
    show World.ownsRow _ _ _ _ _ _ _
    rw [show headOf q n ++ bodyOf q s 0 = headOf q n by simp [bodyOf]]
    exact this
  have HBN : Hid (∀ j, headOf q n ++ bodyOf q s (j + 1) = headOf q n ++ bodyOf q s j ++ [(⟨1, (q : Int) + 3 + j, ((at8 s j).toNat : Int)⟩ : Deed)]) := fun j => by rw [bodyOf_next, List.append_assoc]
  have HBL : Hid (∀ j, (headOf q n ++ bodyOf q s j).length = 3 + j) := body_length q n s
  have HIX : Hid (∀ k, k < n → ∀ W, (Instr.index 9 (.string s) (.int .i64 (k : Int))).run Try.prog W = .ok (.int .u8 ((at8 s k).toNat : Int)) W) := fun k h W => ix_any s k (by omega) W
  have HRR : Hid (R = headOf q n ++ bodyOf q s n ++ [(⟨1, (q : Int) + 2, 252⟩ : Deed)]) := by
    show R = _
    rw [hR]
    unfold deedsOf
    rw [hsz]
  clear hR HO
  go_wp2_with fail
  go_loopg [33] n (fun gk s33 wr => ∃ (j : Nat) (v : Value), j ≤ n ∧ s33 = .int .i64 j ∧ Hid (gk = n - j) ∧ Hid (CellsAt wr B 32 #[v]) ∧ Hid (wr.ownsRow w.heap.size 40 3 v (headOf q n ++ bodyOf q s j).length ((headOf q n ++ bodyOf q s j).flatMap deedC)) ∧ Hid (∀ k, v.ownBlock = some k → k ≠ B) ∧ Hid (Below w.heap.size w wr))
  case atStart => exact ⟨0, _, Nat.zero_le _, rfl, (rfl : n = n - 0), HC.out, HO2.out, HN.out, HB.out⟩
  case round =>
    obtain ⟨j, v, hj, rfl, HGK, HC1, HO1, HN1, HB1⟩ := hrel
    clear HC HO2 HN HB HBS
    have HBS : Hid (w.heap.size ≤ wr.heap.size) := HB1.out.size
    by_cases hlt : j < n
    · have hix := HIX.out j hlt
      have hx := (at8 s j).toNat_lt
      have hln := HBL.out j
      have hbn := HBN.out j
      go_wp2_with fail
      refine (HPUT.out _ _ _ _ _ HC1.out HO1.out (by omega) HN1.out HBS.out (by omega) (by omega)).mono ?_
      rintro e w8 ⟨rfl, ⟨v8, hc, ho, hn⟩, b⟩
      have HB8 : Hid (Below w.heap.size w w8) := HB1.out.trans b
      have HC8 : Hid _ := hc
      have HN8 : Hid _ := hn
      rw [← hbn] at ho
      have HO8 : Hid _ := ho
      clear hc hn ho b hx hln hbn HB1 HC1 HN1 HO1
      go_wp2_with fail
      go_roundg (n - (j + 1))
      case measure =>
        have := HGK.out
        omega
      case rel => exact ⟨j + 1, v8, by omega, by go_num, rfl, HC8.out, HO8.out, HN8.out, HB8.out⟩
    · obtain rfl : j = n := by omega
      have hln := HBL.out j
      go_wp2_with fail
      refine (HPUT.out _ _ _ _ _ HC1.out HO1.out (by omega) HN1.out HBS.out (by omega) (by omega)).mono ?_
      rintro e w8 ⟨rfl, ⟨v8, hc, ho, hn⟩, b⟩
      have HB8 : Hid (Below w.heap.size w w8) := HB1.out.trans b
      rw [← HRR.out] at ho
      have HO8 : Hid _ := ho
      have c0 := hc.cell 0
      have cl := hc.lt
      simp at c0
      clear hc hn ho b hln HB1 HC1 HN1 HO1
      go_wp2
      go_ret
      exact ⟨⟨_, rfl, HO8.out⟩, HB8.out⟩

end Go.Proofs.Ythmohjgdcjafkag
