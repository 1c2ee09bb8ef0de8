/- Texts that are laid together. -/
import Derived.Test.YthmohjgdcjafkadGreatMrgM
import Derived.Test.YthmohjgdcjafkadGreatMrgA
import Derived.Test.YthmohjgdcjafkadGreatMrgN
import Derived.Test.YthmohjgdcjafkadGreatMrgO
import Derived.Test.YthmohjgdcjafkadGreatMrgH
import Derived.Test.YthmohjgdcjafkadGreatMrgJ
import Derived.Test.YthmohjgdcjafkadGreatMrgE
import Derived.Lib.Overlaps
import Derived.Laws.Externs
import Derived.Lib.Walk

/- Where images lie in the area, byte by byte, as data; and what an image does not hang on. -/
namespace Go.Proofs.YthmohjgdcjafkadGreat
open Go.RowKit Go.PlainAid

theorem bt_app_left {a b : ByteArray} {i : Nat} (h : i < a.size) : bt (a ++ b) i = bt a i := by
  rw [bt_list, bt_list, bytes_app, List.getElem?_append_left (by rw [← size_list]; exact h)]
theorem bt_app_right {a b : ByteArray} {i : Nat} (h : a.size ≤ i) : bt (a ++ b) i = bt b (i - a.size) := by
  rw [bt_list, bt_list, bytes_app, List.getElem?_append_right (by rw [← size_list]; exact h), ← size_list]
theorem bt_blanks {n i : Nat} (h : i < n) : bt (blanks n) i = 255 := by
  rw [bt_list, blanks_list, List.getElem?_replicate, if_pos h]
  rfl
theorem bt_fill_left {s : ByteArray} {n i : Nat} (h : i < s.size) : bt (fillTo s n) i = bt s i := bt_app_left h
theorem bt_fill_right {s : ByteArray} {n i : Nat} (h : s.size ≤ i) (hn : i < n) : bt (fillTo s n) i = 255 := by
  unfold fillTo
  rw [bt_app_right h, bt_blanks (by omega)]

/-- Is a byte none of those that a patch is put into? -/
def clearOf (p : Pat) (i : Nat) : Prop := (i : Int) < p.pos ∨ p.pos + width p.kind ≤ i
theorem width_nonneg (k : Int) : 0 ≤ width k := by
  unfold width
  split
  · omega
  · split
    · omega
    · split <;> omega
theorem app_out {s : ByteArray} {p : Pat} {sym base : Int} (h : appErr s.size p sym base = 0) {i : Nat} (hi : clearOf p i) : bt (appStr s p sym base) i = bt s i := by
  have hw := width_nonneg p.kind
  have hp : 0 ≤ p.pos ∧ p.pos + width p.kind ≤ s.size := by
    have h' := h
    unfold appErr at h'
    split at h'
    · omega
    · split at h'
      · omega
      · rename_i _ hb
        simp only [Bool.not_eq_false, Bool.and_eq_true, betw_iff] at hb
        omega
  unfold appStr
  rw [if_pos h]
  unfold clearOf at hi
  exact bt_put_out _ _ _ _ _ (by omega) (by omega)
theorem patd_out {ads : List Int} {beg : Int} : ∀ {l : List Pat} {s : ByteArray}, (patd ads beg s l).2 = 0 → ∀ {i : Nat}, (∀ p ∈ l, clearOf p i) → bt (patd ads beg s l).1 i = bt s i
  | [], s, _, i, _ => rfl
  | p :: r, s, h, i, hi => by
    unfold patd at h ⊢
    by_cases h0 : appErr s.size p (symOf ads beg p) beg = 0
    · rw [if_neg (by omega)] at h ⊢
      rw [patd_out h (fun q hq => hi q (List.mem_cons_of_mem _ hq)), app_out h0 (hi p (by simp))]
    · rw [if_pos h0] at h
      exact absurd h h0
theorem img_byte {K : Ker} {L : List Plc} {p : Plc} (h : (imgRes K L p).2 = 0) : (imgRes K L p).1.size = 64 * szM p.mod ∧ p.mod.text.size ≤ 64 * szM p.mod ∧
    (∀ n, n < 64 * szM p.mod → p.mod.text.size ≤ n → bt (imgRes K L p).1 n = 255) ∧ (∀ n, n < p.mod.text.size → (∀ q ∈ p.mod.pats, clearOf q n) → bt (imgRes K L p).1 n = bt p.mod.text n) := by
  refine ⟨imgRes_size h, szM_le _, ?_⟩
  rcases imgRes_cases K L p with ⟨h1, e⟩ | ⟨h1, h2, e⟩ | ⟨h1, h2, e⟩
  · rw [e] at h; exact absurd h h1
  · rw [e] at h; exact absurd h h2
  · rw [e]
    have hs := patd_size h2
    refine ⟨fun n hn ht => bt_fill_right (by omega) hn, fun n hn hq => ?_⟩
    rw [bt_fill_left (by omega), patd_out h2 hq]

theorem area_byte {K : Ker} {L : List Plc} : ∀ (l : List Plc) (s : ByteArray) (e : Nat), okPl e l → s.size ≤ 64 * e → (areaFrom K L s l).2 = 0 →
    (areaFrom K L s l).1.size = 1024 ∧ (∀ i, i < s.size → bt (areaFrom K L s l).1 i = bt s i) ∧
    (∀ p ∈ l, (imgRes K L p).2 = 0 ∧ ∀ n, n < 64 * szM p.mod → bt (areaFrom K L s l).1 (64 * p.first.toNat + n) = bt (imgRes K L p).1 n) ∧
    (∀ i, s.size ≤ i → i < 1024 → (∀ p ∈ l, i < 64 * p.first.toNat ∨ 64 * p.first.toNat + 64 * szM p.mod ≤ i) → bt (areaFrom K L s l).1 i = 255)
  | [], s, e, hok, hs, h => by
    have he : (e : Int) ≤ 16 := hok
    have hn : areaFrom K L s [] = (fillTo s 1024, 0) := rfl
    rw [hn]
    exact ⟨fillTo_size (by omega), fun i hi => bt_fill_left hi, fun p hp => absurd hp (by simp), fun i h1 h2 _ => bt_fill_right h1 h2⟩
  | p :: r, s, e, hok, hs, h => by
    obtain ⟨p1, p2, p3, p4⟩ := hok
    have hst : areaFrom K L s (p :: r) = if (imgRes K L p).2 ≠ 0 then (⟨#[]⟩, (imgRes K L p).2) else areaFrom K L (fillTo s (64 * p.first.toNat) ++ (imgRes K L p).1) r := rfl
    by_cases h0 : (imgRes K L p).2 = 0
    · rw [if_neg (by omega)] at hst
      rw [hst] at h ⊢
      have hsz := imgRes_size h0
      have hfs : (fillTo s (64 * p.first.toNat)).size = 64 * p.first.toNat := fillTo_size (by omega)
      have hap : (fillTo s (64 * p.first.toNat) ++ (imgRes K L p).1).size = 64 * (p.first.toNat + szM p.mod) := by rw [ByteArray.size_append, hfs, hsz]; omega
      obtain ⟨g1, g2, g3, g4⟩ := area_byte r _ (p.first.toNat + szM p.mod) (by rw [show ((p.first.toNat + szM p.mod : Nat) : Int) = p.first + szM p.mod by omega]; exact p4) (by omega) h
      refine ⟨g1, fun i hi => ?_, fun q hq => ?_, fun i h1 h2 h3 => ?_⟩
      · rw [g2 i (by omega), bt_app_left (by omega), bt_fill_left hi]
      · rcases List.mem_cons.1 hq with rfl | hq
        · refine ⟨h0, fun n hn => ?_⟩
          rw [g2 _ (by omega), bt_app_right (by omega), hfs, Nat.add_sub_cancel_left]
        · exact g3 q hq
      · by_cases hi : i < 64 * (p.first.toNat + szM p.mod)
        · have := h3 p (by simp)
          rw [g2 i (by omega), bt_app_left (by omega), bt_fill_right h1 (by omega)]
        · exact g4 i (by omega) h2 (fun q hq => h3 q (List.mem_cons_of_mem _ hq))
    · rw [hst, if_pos h0] at h
      exact absurd h h0

theorem find_nodup : ∀ {L : List Plc}, (L.map (·.mod.name)).Nodup → ∀ {p : Plc}, p ∈ L → L.find? (fun q => q.mod.name == p.mod.name) = some p
  | [], _, p, hp => absurd hp (by simp)
  | x :: l, h, p, hp => by
    rw [List.map_cons, List.nodup_cons] at h
    rcases List.mem_cons.1 hp with rfl | hp
    · have hb : (p.mod.name == p.mod.name) = true := (Go.MapKept.bytes_beq _ _).2 rfl
      exact List.find?_cons_of_pos (p := fun q : Plc => q.mod.name == p.mod.name) hb
    · have hne : x.mod.name ≠ p.mod.name := fun e => h.1 (e ▸ List.mem_map.2 ⟨p, hp, rfl⟩)
      have hb : ¬ (x.mod.name == p.mod.name) = true := fun e => hne ((Go.MapKept.bytes_beq _ _).1 e)
      exact (List.find?_cons_of_neg (p := fun q : Plc => q.mod.name == p.mod.name) hb).trans (find_nodup h.2 hp)
/-- The image of one that is there. -/
theorem imageOf_at {K : Ker} {L : List Plc} (h : chkLink K L = 0) {p : Plc} (hp : p ∈ L) : imageOf K L p.mod.name = imgRes K L p := by
  have ht := twice_nodup L [] (by simp)
  rw [List.nil_append] at ht
  unfold imageOf
  rw [if_neg (by omega), find_nodup (ht.1 (chkLink_zero h).2.2) hp]
theorem areaOf_zero {K : Ker} {L : List Plc} (h : (areaOf K L).2 = 0) : chkLink K L = 0 ∧ areaOf K L = areaFrom K L ⟨#[]⟩ L ∧ (areaFrom K L ⟨#[]⟩ L).2 = 0 := by
  unfold areaOf at h ⊢
  by_cases h0 : chkLink K L = 0
  · rw [if_neg (by omega)] at h ⊢
    exact ⟨h0, rfl, h⟩
  · rw [if_pos h0] at h
    exact absurd h h0
theorem areaOf_bad {K : Ker} {L : List Plc} (h : (areaOf K L).2 ≠ 0) : (areaOf K L).1 = ⟨#[]⟩ := by
  have key : ∀ l s, (areaFrom K L s l).2 ≠ 0 → (areaFrom K L s l).1 = ⟨#[]⟩ := by
    intro l
    induction l with
    | nil => intro s h; exact absurd rfl h
    | cons p r ih =>
      intro s h
      have hst : areaFrom K L s (p :: r) = if (imgRes K L p).2 ≠ 0 then (⟨#[]⟩, (imgRes K L p).2) else areaFrom K L (fillTo s (64 * p.first.toNat) ++ (imgRes K L p).1) r := rfl
      rw [hst] at h ⊢
      by_cases h0 : (imgRes K L p).2 = 0
      · rw [if_neg (by omega)] at h ⊢
        exact ih _ h
      · rw [if_pos h0]
  unfold areaOf at h ⊢
  by_cases h0 : chkLink K L = 0
  · rw [if_neg (by omega)] at h ⊢
    exact key _ _ h
  · rw [if_pos h0]

/-- All that is asked of modules but for their texts' bytes. -/
def blurM (m : Mod) : Mod := ⟨m.name, m.major, m.minor, blanks m.text.size, m.exps, m.imps, m.pats⟩
def blur (p : Plc) : Plc := ⟨blurM p.mod, p.first⟩
theorem chkMod_blur (m : Mod) : chkMod (blurM m) = chkMod m := by
  unfold chkMod blurM
  dsimp only
  rw [blanks_size]
theorem szM_blur (m : Mod) : szM (blurM m) = szM m := by
  unfold szM blurM
  dsimp only
  rw [blanks_size]
theorem chkBy_blur {q : Plc → Int} (hq : ∀ p, q (blur p) = q p) : ∀ L : List Plc, chkBy q (L.map blur) = chkBy q L
  | [] => rfl
  | p :: l => by
    have hs : ∀ (p : Plc) l, chkBy q (p :: l) = if chkMod p.mod ≠ 0 then chkMod p.mod else if q p ≠ 0 then q p else chkBy q l := fun _ _ => rfl
    rw [List.map_cons, hs, hs, hq, chkBy_blur hq l]
    have hm : chkMod (blur p).mod = chkMod p.mod := chkMod_blur p.mod
    rw [hm]
theorem behind_blur : ∀ (L : List Plc) (e : Int), behind e (L.map blur) = behind e L
  | [], _ => rfl
  | p :: l, e => by
    have hs : ∀ (p : Plc) l e, behind e (p :: l) = (!decide (p.first < e) && behind (p.first + szM p.mod) l) := fun _ _ _ => rfl
    rw [List.map_cons, hs, hs, behind_blur l]
    show (!decide (p.first < e) && behind (p.first + szM (blurM p.mod)) l) = _
    rw [szM_blur]
theorem chkReg_blur (L : List Plc) : chkReg (L.map blur) = chkReg L := by
  unfold chkReg
  rw [chkBy_blur (fun p => by
    unfold outErr
    show (if p.first < 0 ∨ 16 - (szM (blurM p.mod) : Int) < p.first then (3 : Int) else 0) = _
    rw [szM_blur]) L, behind_blur, List.length_map]
theorem twice_blur : ∀ (L : List Plc) (met : List ByteArray), twiceFrom met (L.map blur) = twiceFrom met L
  | [], _ => rfl
  | p :: l, met => by
    have hs : ∀ (p : Plc) l met, twiceFrom met (p :: l) = ((met.any fun y => y == p.mod.name) || twiceFrom (met ++ [p.mod.name]) l) := fun _ _ _ => rfl
    rw [List.map_cons, hs, hs, twice_blur l]
    rfl
theorem chkLink_blur (K : Ker) (L : List Plc) : chkLink K (L.map blur) = chkLink K L := by
  unfold chkLink
  rw [chkReg_blur, twice_blur]
theorem chkFind_blur (K : Ker) (L : List Plc) : chkFind K (L.map blur) = chkFind K L := by
  unfold chkFind chkPlaced
  rw [chkPls_by, chkPls_by, chkBy_blur (fun _ => rfl) L, List.length_map]
theorem tgt_blur (K : Ker) (L : List Plc) (n : ByteArray) : tgtOf K (L.map blur) n = tgtOf K L n := by
  unfold tgtOf
  rw [List.find?_map]
  have : ((fun p : Plc => p.mod.name == n) ∘ blur) = fun p : Plc => p.mod.name == n := rfl
  rw [this]
  cases L.find? fun p : Plc => p.mod.name == n <;> rfl
theorem addr_blur (K : Ker) (L : List Plc) (i : Imp) : addrOf K (L.map blur) i = addrOf K L i := by
  unfold addrOf
  rw [tgt_blur]
theorem addrs_blur (K : Ker) (L : List Plc) : ∀ (is : List Imp) (acc : List Int), addrsFrom K (L.map blur) acc is = addrsFrom K L acc is
  | [], _ => rfl
  | i :: r, acc => by
    have hs : ∀ L, addrsFrom K L acc (i :: r) = if (addrOf K L i).2 ≠ 0 then ([], (addrOf K L i).2) else addrsFrom K L (acc ++ [(addrOf K L i).1]) r := fun _ => rfl
    rw [hs, hs, addr_blur, addrs_blur K L r]
theorem all_blur (K : Ker) (L : List Plc) (m : Mod) : allRes K (L.map blur) m = allRes K L m := by
  unfold allRes
  rw [chkFind_blur, addrs_blur]
theorem img_blur (K : Ker) (L : List Plc) (p : Plc) : imgRes K (L.map blur) p = imgRes K L p := by
  unfold imgRes
  rw [all_blur]
/-- Another text of the same size changes no image of another one. -/
theorem image_alone (K : Ker) {L L' : List Plc} (hb : L'.map blur = L.map blur) {p : Plc} (h1 : p ∈ L) (h2 : p ∈ L') : imageOf K L' p.mod.name = imageOf K L p.mod.name := by
  have hc : chkLink K L' = chkLink K L := by rw [← chkLink_blur, hb, chkLink_blur]
  by_cases h0 : chkLink K L = 0
  · rw [imageOf_at h0 h1, imageOf_at (hc.trans h0) h2, ← img_blur, hb, img_blur]
  · unfold imageOf
    rw [hc, if_pos h0, if_pos h0]

end Go.Proofs.YthmohjgdcjafkadGreat

/- What is moved by whole sectors stays right, as data. -/
namespace Go.Proofs.YthmohjgdcjafkadGreat
open Go.RowKit Go.PlainAid

/-- The same modules, in the same order. -/
theorem find_mods : ∀ {L L' : List Plc} (name : ByteArray), L'.map (·.mod) = L.map (·.mod) →
    (L.find? (fun p => p.mod.name == name) = none ∧ L'.find? (fun p => p.mod.name == name) = none) ∨ ∃ p p', L.find? (fun p => p.mod.name == name) = some p ∧ L'.find? (fun p => p.mod.name == name) = some p' ∧ p'.mod = p.mod ∧ p ∈ L ∧ p' ∈ L'
  | [], [], _, _ => .inl ⟨rfl, rfl⟩
  | [], _ :: _, _, h => by cases h
  | _ :: _, [], _, h => by cases h
  | p :: l, q :: l', name, h => by
    rw [List.map_cons, List.map_cons] at h
    injection h with h1 h2
    cases hb : (p.mod.name == name) with
    | true =>
      have hb' : (q.mod.name == name) = true := by rw [h1]; exact hb
      exact .inr ⟨p, q, List.find?_cons_of_pos (p := fun p : Plc => p.mod.name == name) hb, List.find?_cons_of_pos (p := fun p : Plc => p.mod.name == name) hb', h1, by simp, by simp⟩
    | false =>
      have hb1 : ¬ (p.mod.name == name) = true := by rw [hb]; decide
      have hb2 : ¬ (q.mod.name == name) = true := by rw [h1, hb]; decide
      rw [List.find?_cons_of_neg (p := fun p : Plc => p.mod.name == name) hb1, List.find?_cons_of_neg (p := fun p : Plc => p.mod.name == name) hb2]
      rcases find_mods name h2 with h | ⟨x, y, e1, e2, e3, e4, e5⟩
      · exact .inl h
      · exact .inr ⟨x, y, e1, e2, e3, List.mem_cons_of_mem _ e4, List.mem_cons_of_mem _ e5⟩
/-- Where an import is: as it was, or moved by an even number. -/
theorem addr_mods {K : Ker} {L L' : List Plc} (h : L'.map (·.mod) = L.map (·.mod)) (i : Imp) : (addrOf K L' i).2 = (addrOf K L i).2 ∧ ((addrOf K L' i).1 - (addrOf K L i).1) % 2 = 0 := by
  unfold addrOf tgtOf
  by_cases hk : (i.mod == kernelName) = true
  · rw [if_pos hk, if_pos hk]
    exact ⟨rfl, by simp⟩
  · rw [if_neg hk, if_neg hk]
    rcases find_mods i.mod h with ⟨e1, e2⟩ | ⟨p, p', e1, e2, e3, _, _⟩
    · rw [e1, e2]
      exact ⟨rfl, by simp⟩
    · rw [e1, e2]
      dsimp only [Option.map]
      rw [e3]
      split
      · exact ⟨rfl, by simp⟩
      · cases expOf p.mod.exps i.name with
        | none => exact ⟨rfl, by simp⟩
        | some x =>
          refine ⟨rfl, ?_⟩
          dsimp only
          omega
/-- Rows of numbers that are even apart. -/
def Evens (a b : List Int) : Prop := a.length = b.length ∧ ∀ (j : Nat) (x y : Int), a[j]? = some x → b[j]? = some y → (x - y) % 2 = 0
theorem Evens.snoc {a b : List Int} {x y : Int} (h : Evens a b) (hxy : (x - y) % 2 = 0) : Evens (a ++ [x]) (b ++ [y]) := by
  refine ⟨by simp [h.1], fun j u v hu hv => ?_⟩
  by_cases hj : j < a.length
  · rw [List.getElem?_append_left hj] at hu
    rw [List.getElem?_append_left (by rw [← h.1]; exact hj)] at hv
    exact h.2 j u v hu hv
  · rw [List.getElem?_append_right (by omega)] at hu
    rw [List.getElem?_append_right (by rw [← h.1]; omega)] at hv
    have hj0 : j - a.length = 0 := by
      have := (List.getElem?_eq_some_iff.1 hu).1
      simp at this
      omega
    rw [hj0] at hu
    rw [← h.1, hj0] at hv
    simp at hu hv
    rw [← hu, ← hv]
    exact hxy
theorem addrs_mods {K : Ker} {L L' : List Plc} (h : L'.map (·.mod) = L.map (·.mod)) : ∀ (is : List Imp) (a b : List Int), Evens a b → (addrsFrom K L' a is).2 = (addrsFrom K L b is).2 ∧ Evens (addrsFrom K L' a is).1 (addrsFrom K L b is).1
  | [], a, b, hab => ⟨rfl, hab⟩
  | i :: r, a, b, hab => by
    have hs : ∀ L a, addrsFrom K L a (i :: r) = if (addrOf K L i).2 ≠ 0 then ([], (addrOf K L i).2) else addrsFrom K L (a ++ [(addrOf K L i).1]) r := fun _ _ => rfl
    obtain ⟨h1, h2⟩ := addr_mods (K := K) h i
    rw [hs, hs, h1]
    by_cases h0 : (addrOf K L i).2 = 0
    · rw [if_neg (by omega), if_neg (by omega)]
      exact addrs_mods h r _ _ (hab.snoc h2)
    · rw [if_pos h0, if_pos h0]
      exact ⟨rfl, rfl, fun j x y hx _ => by simp at hx⟩
/-- Addresses lie in their bounds. -/
theorem addr_bd {K : Ker} {L : List Plc} (h : chkFind K L = 0) (i : Imp) : 0 ≤ (addrOf K L i).1 ∧ (addrOf K L i).1 ≤ 9151 := by
  have hz : (0 : Int) ≤ 0 ∧ (0 : Int) ≤ 9151 := by decide
  rcases addrOf_cases K L i with ⟨_, e⟩ | ⟨t, ht, ⟨_, e⟩ | ⟨_, _, e⟩ | ⟨_, _, ⟨_, e⟩ | ⟨x, hx, e⟩⟩⟩
  · rw [e]; exact hz
  · rw [e]; exact hz
  · rw [e]; exact hz
  · rw [e]; exact hz
  · obtain ⟨b1, b2, _, b4⟩ := tgt_bd h ht
    have := b4 x (List.mem_of_find?_eq_some hx)
    rw [e]
    exact ⟨by dsimp only; omega, by dsimp only; omega⟩
theorem addrs_bd {K : Ker} {L : List Plc} (h : chkFind K L = 0) : ∀ (is : List Imp) (a : List Int), (∀ x ∈ a, 0 ≤ x ∧ x ≤ 9151) → ∀ x ∈ (addrsFrom K L a is).1, 0 ≤ x ∧ x ≤ 9151
  | [], a, ha => ha
  | i :: r, a, ha => by
    have hs : addrsFrom K L a (i :: r) = if (addrOf K L i).2 ≠ 0 then ([], (addrOf K L i).2) else addrsFrom K L (a ++ [(addrOf K L i).1]) r := rfl
    rw [hs]
    by_cases h0 : (addrOf K L i).2 = 0
    · rw [if_neg (by omega)]
      refine addrs_bd h r _ fun x hx => ?_
      rcases List.mem_append.1 hx with hx | hx
      · exact ha x hx
      · rw [List.mem_singleton.1 hx]
        exact addr_bd h i
    · rw [if_pos h0]
      intro x hx
      simp at hx

/-- A patch that could be put can be put where all is even apart. -/
theorem app_even {n : Int} {p : Pat} {sy sy' bg bg' : Int} (h : appErr n p sy bg = 0) (h1 : (sy' - sy) % 2 = 0) (h2 : (bg' - bg) % 2 = 0) (b1 : 0 ≤ sy' ∧ sy' ≤ 9151) (b2 : 0 ≤ bg' ∧ bg' ≤ 9151) (hn : n ≤ 256) : appErr n p sy' bg' = 0 := by
  have hw := width_nonneg p.kind
  unfold appErr at h ⊢
  split at h
  · omega
  · rename_i hw0
    rw [if_neg hw0]
    split at h
    · omega
    · rename_i hb
      simp only [Bool.not_eq_false, Bool.and_eq_true, betw_iff] at hb
      obtain ⟨⟨q1, q2⟩, q3⟩ := hb
      have hb' : (betw p.add 0 65535 && betw p.pos 0 (n - width p.kind) && betw bg' 0 65279) = true := by
        simp only [Bool.and_eq_true, betw_iff]
        exact ⟨⟨q1, q2⟩, by omega, by omega⟩
      rw [hb', if_neg (by decide)]
      unfold valErr at h ⊢
      rw [if_neg hw0] at h ⊢
      have hv : valRange sy' p.add (bg' + p.pos) = true := by
        unfold valRange
        simp only [Bool.and_eq_true, betw_iff]
        omega
      rw [hv, if_neg (by decide)]
      split at h
      · omega
      · split at h
        · omega
        · rename_i hk
          rw [if_neg ?_]
          rintro ⟨k1, k2⟩
          exact hk ⟨k1, by omega⟩
theorem patd_even {ads ads' : List Int} {bg bg' : Int} (ha : Evens ads' ads) (hb : (bg' - bg) % 2 = 0) (ba : ∀ x ∈ ads', 0 ≤ x ∧ x ≤ 9151) (bb : 0 ≤ bg' ∧ bg' ≤ 9151) : ∀ (ps : List Pat) (s s' : ByteArray), s'.size = s.size → s.size ≤ 256 → (∀ p ∈ ps, p.sym < ads.length) → (patd ads bg s ps).2 = 0 → (patd ads' bg' s' ps).2 = 0
  | [], _, _, _, _, _, _ => rfl
  | p :: r, s, s', hs, hn, hp, h => by
    unfold patd at h ⊢
    by_cases h0 : appErr s.size p (symOf ads bg p) bg = 0
    · rw [if_neg (by omega)] at h
      have hsy : ((symOf ads' bg' p) - (symOf ads bg p)) % 2 = 0 ∧ 0 ≤ symOf ads' bg' p ∧ symOf ads' bg' p ≤ 9151 := by
        unfold symOf
        by_cases hsym : 0 ≤ p.sym
        · rw [if_pos hsym, if_pos hsym]
          have hl := hp p (by simp)
          have hj : p.sym.toNat < ads.length := by omega
          have hj' : p.sym.toNat < ads'.length := by rw [ha.1]; exact hj
          rw [List.getElem?_eq_getElem hj, List.getElem?_eq_getElem hj']
          dsimp only [Option.getD]
          have := ba ads'[p.sym.toNat] (List.getElem_mem hj')
          exact ⟨ha.2 _ _ _ (List.getElem?_eq_getElem hj') (List.getElem?_eq_getElem hj), this.1, this.2⟩
        · rw [if_neg hsym, if_neg hsym]
          exact ⟨hb, bb.1, bb.2⟩
      have h0' : appErr s'.size p (symOf ads' bg' p) bg' = 0 := by
        rw [hs]
        exact app_even h0 hsy.1 hb ⟨hsy.2.1, hsy.2.2⟩ bb (by omega)
      rw [if_neg (by omega)]
      refine patd_even ha hb ba bb r _ _ ?_ ?_ (fun q hq => hp q (List.mem_cons_of_mem _ hq)) h
      · rw [appStr_size h0', appStr_size h0, hs]
      · rw [appStr_size h0]; exact hn
    · rw [if_pos h0] at h
      exact absurd h h0

theorem area_all {K : Ker} {L : List Plc} : ∀ (l : List Plc) (s : ByteArray), (∀ p ∈ l, (imgRes K L p).2 = 0) → (areaFrom K L s l).2 = 0
  | [], _, _ => rfl
  | p :: r, s, h => by
    have hst : areaFrom K L s (p :: r) = if (imgRes K L p).2 ≠ 0 then (⟨#[]⟩, (imgRes K L p).2) else areaFrom K L (fillTo s (64 * p.first.toNat) ++ (imgRes K L p).1) r := rfl
    rw [hst, if_neg (by have := h p (by simp); omega)]
    exact area_all r _ fun q hq => h q (List.mem_cons_of_mem _ hq)
/-- Modules that are right, moved by whole sectors, are right, if they still lie behind one another. -/
theorem moved_right {K : Ker} {L L' : List Plc} (h : chkRg K L = 0) (hm : L'.map (·.mod) = L.map (·.mod)) (hok : okPl 0 L') : chkRg K L' = 0 := by
  obtain ⟨h1, h2, h3⟩ := chkRg_zero h
  obtain ⟨hk, hr, ht⟩ := chkLink_zero h1
  obtain ⟨r1, r2, r3⟩ := chkReg_zero.1 hr
  have hl : L'.length = L.length := by have := congrArg List.length hm; simpa using this
  have hat : ∀ p' ∈ L', ∃ p ∈ L, p'.mod = p.mod := fun p' hp' => by
    have : p'.mod ∈ L'.map (·.mod) := List.mem_map.2 ⟨p', hp', rfl⟩
    rw [hm] at this
    obtain ⟨p, hp, e⟩ := List.mem_map.1 this
    exact ⟨p, hp, e.symm⟩
  have hr' : chkReg L' = 0 := chkReg_zero.2 ⟨by rw [hl]; exact r1, fun p' hp' => by obtain ⟨p, hp, e⟩ := hat p' hp'; rw [e]; exact r2 p hp, hok⟩
  have ht' : twiceFrom [] L' = false := by rw [twice_mods L L' [] hm]; exact ht
  have h1' : chkLink K L' = 0 := by
    unfold chkLink
    rw [if_neg (by omega), if_neg (by omega), ht']
    rfl
  have h2' : (ordOf L').2 = 0 := by rw [ord_mods L L' hm]; exact h2
  obtain ⟨_, _, h4⟩ := areaOf_zero h3
  obtain ⟨_, _, g3, _⟩ := area_byte (K := K) (L := L) L ⟨#[]⟩ 0 r3 (Nat.le_refl _) h4
  have hf := link_find h1
  have hf' := link_find h1'
  have h3' : (areaOf K L').2 = 0 := by
    unfold areaOf
    rw [if_neg (by omega)]
    refine area_all L' _ fun p' hp' => ?_
    obtain ⟨p, hp, e⟩ := hat p' hp'
    have hc := r2 p hp
    rcases imgRes_cases K L p with ⟨n1, e1⟩ | ⟨_, n2, e1⟩ | ⟨n1, n2, _⟩
    · have := (g3 p hp).1; rw [e1] at this; exact absurd this n1
    · have := (g3 p hp).1; rw [e1] at this; exact absurd this n2
    · have hal := allRes_length n1
      have ea : allRes K L p.mod = addrsFrom K L [] p.mod.imps := by
        rcases allRes_cases K L p.mod with ⟨q, _⟩ | ⟨_, q, _⟩ | ⟨_, _, q⟩
        · exact absurd hf q
        · exact absurd hc q
        · exact q
      have ea' : allRes K L' p'.mod = addrsFrom K L' [] p.mod.imps := by
        rcases allRes_cases K L' p'.mod with ⟨q, _⟩ | ⟨_, q, _⟩ | ⟨_, _, q⟩
        · exact absurd hf' q
        · rw [e] at q; exact absurd hc q
        · rw [q, e]
      obtain ⟨q1, q2⟩ := addrs_mods (K := K) hm p.mod.imps [] [] ⟨rfl, fun j x y hx _ => by simp at hx⟩
      have qb := addrs_bd hf' p.mod.imps [] (fun x hx => by simp at hx)
      have f1 := okPl_first hok p' hp'
      have hz := szM_bd hc
      rw [ea] at n1 n2 hal
      rw [← ea'] at q1 q2 qb
      have n1' : (allRes K L' p'.mod).2 = 0 := by rw [q1]; exact n1
      have hsy : ∀ q ∈ p.mod.pats, q.sym < (addrsFrom K L [] p.mod.imps).1.length := fun q hq => by
        have := (pats_of hc q hq).2
        rw [hal]
        omega
      have n2' := patd_even (bg := 4096 + p.first * 64) (bg' := 4096 + p'.first * 64) q2 (by omega) qb (by omega) p.mod.pats p.mod.text p'.mod.text (by rw [e]) (by omega) hsy n2
      unfold imgRes
      rw [if_neg (by omega)]
      have n2'' : (patd (allRes K L' p'.mod).1 (4096 + p'.first * 64) p'.mod.text p'.mod.pats).2 = 0 := by
        have : p'.mod.pats = p.mod.pats := by rw [e]
        rw [this]
        exact n2'
      rw [if_neg (by omega)]
  unfold chkRg
  rw [if_neg (by omega), if_neg (by omega)]
  exact h3'
/-- Behind a step all is right. -/
theorem step_right {K : Ker} {L L' : List Plc} (h : chkRg K L = 0) (hs : stepFrom 0 L = some L') : chkRg K L' = 0 :=
  moved_right h (step_some hs).2.2 (step_ok (chkReg_zero.1 (chkLink_zero (chkRg_zero h).1).2.1).2.2 hs)

end Go.Proofs.YthmohjgdcjafkadGreat

/- The document's way to the runs: sector by sector. -/
namespace Go.Proofs.YthmohjgdcjafkadGreat
open Go.RowKit Go.PlainAid

def bump (l : List (Int × Int)) : List (Int × Int) := l.dropLast ++ (match l.getLast? with | none => [] | some r => [(r.1, r.2 + 1)])
def scanStep (u : Nat → Bool) (i : Nat) (acc : List (Int × Int)) : List (Int × Int) :=
  if u i = true then acc else if 0 < i ∧ u (i - 1) = false then bump acc else acc ++ [((i : Int), 1)]
def scan (u : Nat → Bool) : Nat → List (Int × Int)
  | 0 => []
  | i + 1 => scanStep u i (scan u i)
theorem bump_snoc (l : List (Int × Int)) (a b : Int) : bump (l ++ [(a, b)]) = l ++ [(a, b + 1)] := by
  unfold bump
  simp
theorem scan_used {u : Nat → Bool} {a : Nat} : ∀ {n : Nat}, (∀ j, a ≤ j → j < a + n → u j = true) → scan u (a + n) = scan u a
  | 0, _ => rfl
  | n + 1, h => by
    show scanStep u (a + n) (scan u (a + n)) = _
    unfold scanStep
    rw [if_pos (h _ (by omega) (by omega)), scan_used (fun j h1 h2 => h j h1 (by omega))]
theorem scan_free {u : Nat → Bool} {a : Nat} (h0 : a = 0 ∨ u (a - 1) = true) : ∀ {n : Nat}, (∀ j, a ≤ j → j < a + (n + 1) → u j = false) → scan u (a + (n + 1)) = scan u a ++ [((a : Int), (n : Int) + 1)]
  | 0, h => by
    show scanStep u a (scan u a) = _
    unfold scanStep
    rw [if_neg (by rw [h a (Nat.le_refl _) (by omega)]; decide), if_neg ?_]
    · simp
    · rintro ⟨h1, h2⟩
      rcases h0 with h0 | h0
      · omega
      · rw [h0] at h2; exact absurd h2 (by decide)
  | n + 1, h => by
    show scanStep u (a + (n + 1)) (scan u (a + (n + 1))) = _
    unfold scanStep
    rw [if_neg (by rw [h (a + (n + 1)) (by omega) (by omega)]; decide), if_pos ⟨by omega, h _ (by omega) (by omega)⟩, scan_free h0 (fun j h1 h2 => h j h1 (by omega)), bump_snoc]
    simp
def usedBy (l : List Plc) (j : Nat) : Bool := l.any fun p => decide (p.first ≤ (j : Int)) && decide ((j : Int) < p.first + szM p.mod)
theorem usedBy_false {l : List Plc} {j : Nat} : usedBy l j = false ↔ ∀ p ∈ l, ¬ (p.first ≤ (j : Int) ∧ (j : Int) < p.first + szM p.mod) := by
  unfold usedBy
  rw [List.any_eq_false]
  simp
theorem usedBy_true {l : List Plc} {j : Nat} : usedBy l j = true ↔ ∃ p ∈ l, p.first ≤ (j : Int) ∧ (j : Int) < p.first + szM p.mod := by
  unfold usedBy
  rw [List.any_eq_true]
  simp
theorem scan_gap {u : Nat → Bool} {a b : Nat} (hab : a ≤ b) (h0 : a = 0 ∨ u (a - 1) = true) (h : ∀ j, a ≤ j → j < b → u j = false) : scan u b = scan u a ++ gapOf a b := by
  by_cases hb : a = b
  · subst hb
    simp [gapOf]
  · obtain ⟨n, rfl⟩ : ∃ n, b = a + (n + 1) := ⟨b - a - 1, by omega⟩
    rw [scan_free h0 h]
    unfold gapOf
    rw [if_neg (by omega)]
    simp
    omega
theorem scan_runs {u : Nat → Bool} : ∀ {l : List Plc} {e : Nat}, okPl e l → (e = 0 ∨ u (e - 1) = true) → (∀ j, e ≤ j → j < 16 → u j = usedBy l j) → scan u 16 = scan u e ++ runsFrom e l
  | [], e, h, h0, hu => by
    have h : (e : Int) ≤ 16 := h
    exact scan_gap (by omega) h0 (fun j h1 h2 => by rw [hu j h1 h2]; rfl)
  | p :: l, e, h, h0, hu => by
    obtain ⟨h1, h2, h3, h4⟩ := h
    obtain ⟨f, hf⟩ : ∃ f : Nat, p.first = f := ⟨p.first.toNat, by omega⟩
    rw [hf] at h1 h3 h4
    have hl := okPl_first h4
    have g1 : scan u f = scan u e ++ gapOf e f := by
      refine scan_gap (by omega) h0 fun j k1 k2 => ?_
      rw [hu j k1 (by omega), usedBy_false]
      intro q hq
      rcases List.mem_cons.1 hq with rfl | hq
      · omega
      · have := hl q hq
        omega
    have hus : ∀ j, f ≤ j → j < f + szM p.mod → u j = true := by
      intro j k1 k2
      rw [hu j (by omega) (by omega), usedBy_true]
      exact ⟨p, by simp, by omega, by omega⟩
    have g2 : scan u (f + szM p.mod) = scan u f := scan_used hus
    have e1 : ((f + szM p.mod : Nat) : Int) = p.first + szM p.mod := by rw [hf]; omega
    have g3 := scan_runs (u := u) (l := l) (e := f + szM p.mod) (by rw [e1, hf]; exact h4) (.inr (hus _ (by omega) (by omega))) (by
      intro j k1 k2
      rw [hu j (by omega) k2]
      unfold usedBy
      rw [List.any_cons]
      have : (decide (p.first ≤ (j : Int)) && decide ((j : Int) < p.first + szM p.mod)) = false := by
        simp
        omega
      rw [this, Bool.false_or])
    have g4 : runsFrom e (p :: l) = gapOf e p.first ++ runsFrom (p.first + szM p.mod) l := rfl
    rw [g3, g2, g1, e1, g4, hf, List.append_assoc]

end Go.Proofs.YthmohjgdcjafkadGreat

/- What becomes of placed modules, as data: one put among others, one taken out, room for so many. -/
namespace Go.Proofs.YthmohjgdcjafkadGreat
open Go.RowKit Go.PlainAid

theorem ix_map {α β : Type} (f : α → β) (p : β → Bool) : ∀ (l : List α) (k : Nat), ixFrom p k (l.map f) = ixFrom (fun x => p (f x)) k l
  | [], _ => rfl
  | x :: l, k => by
    have h1 : ixFrom p k ((x :: l).map f) = if p (f x) then (k : Int) else ixFrom p (k + 1) (l.map f) := rfl
    have h2 : ixFrom (fun x => p (f x)) k (x :: l) = if p (f x) then (k : Int) else ixFrom (fun x => p (f x)) (k + 1) l := rfl
    rw [h1, h2, ix_map f p l (k + 1)]
theorem ix_spec {α : Type} (p : α → Bool) : ∀ (l : List α) (k : Nat), (ixFrom p k l = -1 ∧ ∀ x ∈ l, p x = false) ∨ ∃ j x, ixFrom p k l = ((k + j : Nat) : Int) ∧ l[j]? = some x ∧ p x = true ∧ ∀ i y, i < j → l[i]? = some y → p y = false
  | [], _ => .inl ⟨rfl, by simp⟩
  | y :: l, k => by
    have h1 : ixFrom p k (y :: l) = if p y then (k : Int) else ixFrom p (k + 1) l := rfl
    cases hy : p y
    · rcases ix_spec p l (k + 1) with ⟨h2, h3⟩ | ⟨j, x, h2, h3, h4, h5⟩
      · refine .inl ⟨by rw [h1, hy, if_neg (by decide), h2], fun x hx => ?_⟩
        rcases List.mem_cons.1 hx with rfl | hx
        · exact hy
        · exact h3 x hx
      · refine .inr ⟨j + 1, x, by rw [h1, hy, if_neg (by decide), h2]; congr 1; omega, by simpa using h3, h4, fun i z hi hz => ?_⟩
        cases i with
        | zero => obtain rfl : y = z := by simpa using hz
                  exact hy
        | succ i => exact h5 i z (by omega) (by simpa using hz)
    · exact .inr ⟨0, y, by rw [h1, hy, if_pos rfl]; rfl, rfl, hy, fun i z hi _ => by omega⟩

/-- One more, ahead of those that lie behind it. -/
def putAt : List Plc → Plc → List Plc
  | [], x => [x]
  | p :: r, x => if x.first < p.first then x :: p :: r else p :: putAt r x
/-- Put at a place of a list. -/
def putI {α : Type} (l : List α) (i : Nat) (x : α) : List α := l.take i ++ x :: l.drop i
theorem putI_map {α β : Type} (f : α → β) (l : List α) (i : Nat) (x : α) : (putI l i x).map f = putI (l.map f) i (f x) := by
  unfold putI
  rw [List.map_append, List.map_cons, List.map_take, List.map_drop]
/-- Where the next one lies that is behind: all of them, if none is. -/
def putIx (L : List Plc) (f : Int) : Nat := match ixFrom (fun p : Plc => decide (f < p.first)) 0 L with | .ofNat n => n | .negSucc _ => L.length
theorem putAt_ix (x : Plc) : ∀ (L : List Plc) (j : Nat), j ≤ L.length → (∀ i p, i < j → L[i]? = some p → ¬ x.first < p.first) → (∀ p, L[j]? = some p → x.first < p.first) → putAt L x = putI L j x
  | [], j, hj, _, _ => by
    obtain rfl : j = 0 := by simpa using hj
    rfl
  | p :: r, 0, _, _, h => by
    have := h p rfl
    show (if x.first < p.first then x :: p :: r else p :: putAt r x) = _
    rw [if_pos this]
    rfl
  | p :: r, j + 1, hj, hb, h => by
    have := hb 0 p (by omega) rfl
    show (if x.first < p.first then x :: p :: r else p :: putAt r x) = _
    rw [if_neg this, putAt_ix x r j (by simpa using hj) (fun i q hi hq => hb (i + 1) q (by omega) (by simpa using hq)) (fun q hq => h q (by simpa using hq))]
    rfl
theorem put_cases (L : List Plc) (x : Plc) : (ixFrom (fun p : Plc => decide (x.first < p.first)) 0 L = -1 ∧ putAt L x = putI L L.length x) ∨ ∃ j : Nat, j < L.length ∧ ixFrom (fun p : Plc => decide (x.first < p.first)) 0 L = (j : Int) ∧ putAt L x = putI L j x := by
  rcases ix_spec (fun p : Plc => decide (x.first < p.first)) L 0 with ⟨h1, h2⟩ | ⟨j, p, h1, h2, h3, h4⟩
  · refine .inl ⟨h1, putAt_ix x L _ (Nat.le_refl _) (fun i p _ hp => ?_) (fun p hp => ?_)⟩
    · have := h2 p (List.mem_of_getElem? hp)
      simpa using this
    · simp at hp
  · rw [Nat.zero_add] at h1
    refine .inr ⟨j, (List.getElem?_eq_some_iff.1 h2).1, h1, putAt_ix x L j (Nat.le_of_lt (List.getElem?_eq_some_iff.1 h2).1) (fun i q hi hq => ?_) (fun q hq => ?_)⟩
    · have := h4 i q hi hq
      simpa using this
    · rw [h2] at hq
      obtain rfl := Option.some.inj hq
      simpa using h3
theorem mem_putAt {x p : Plc} : ∀ {L : List Plc}, p ∈ putAt L x ↔ p = x ∨ p ∈ L
  | [] => by simp [putAt]
  | q :: r => by
    have h : putAt (q :: r) x = if x.first < q.first then x :: q :: r else q :: putAt r x := rfl
    rw [h]
    split
    · simp
    · rw [List.mem_cons, mem_putAt, List.mem_cons]
      constructor
      · rintro (h | h | h)
        · exact .inr (.inl h)
        · exact .inl h
        · exact .inr (.inr h)
      · rintro (h | h | h)
        · exact .inr (.inl h)
        · exact .inl h
        · exact .inr (.inr h)
theorem putAt_length (x : Plc) : ∀ L : List Plc, (putAt L x).length = L.length + 1
  | [] => rfl
  | q :: r => by
    have h : putAt (q :: r) x = if x.first < q.first then x :: q :: r else q :: putAt r x := rfl
    rw [h]
    split
    · rfl
    · rw [List.length_cons, putAt_length x r, List.length_cons]

/-- Room for so many sectors among others: from a wanted one on, if they are free there. -/
def roomOf (L : List Plc) (x : Int) (many : Int) : Option Int :=
  if ((runsFrom 0 L).any fun r => decide (r.1 ≤ x) && decide (x + many ≤ r.1 + r.2)) = true then some x else (fitOf many (runsFrom 0 L)).map (·.1)
/-- What is put in: what comes of all, or why not. -/
def instDo (L : List Plc) (M : Mod) : List Plc × Int :=
  if chkMod M ≠ 0 then ([], chkMod M) else if (L.any fun p => p.mod.name == M.name) = true then ([], 6) else if 8 ≤ L.length then ([], 2) else
  match fitOf (szM M) (runsFrom 0 L) with
  | none => ([], 8)
  | some r => (putAt L ⟨M, r.1⟩, 0)
def nameIx (L : List Plc) (name : ByteArray) : Int := ixFrom (fun p : Plc => p.mod.name == name) 0 L
def remAt (L : List Plc) (name : ByteArray) (n : Nat) : List Plc × Int := if (L.any fun p => asksM p.mod name) = true then ([], 4) else (L.eraseIdx n, 0)
def remDo (L : List Plc) (name : ByteArray) : List Plc × Int :=
  match nameIx L name with
  | .negSucc _ => ([], 5)
  | .ofNat n => remAt L name n
def upTo (R : List Plc) (M : Mod) (o : Option Int) : List Plc × Int :=
  match o with
  | none => ([], 8)
  | some f => (putAt R ⟨M, f⟩, 0)
def upAt (L : List Plc) (M : Mod) (n : Nat) : List Plc × Int :=
  match L[n]? with
  | none => ([], 5)
  | some p => upTo (L.eraseIdx n) M (roomOf (L.eraseIdx n) p.first (szM M))
def upDo (L : List Plc) (M : Mod) : List Plc × Int :=
  if chkMod M ≠ 0 then ([], chkMod M) else
  match nameIx L M.name with
  | .negSucc _ => ([], 5)
  | .ofNat n => upAt L M n
theorem remDo_none {L : List Plc} {name : ByteArray} (h : nameIx L name = -1) : remDo L name = ([], 5) := by
  unfold remDo
  rw [h]
  rfl
theorem remDo_at {L : List Plc} {name : ByteArray} {n : Nat} (h : nameIx L name = (n : Int)) : remDo L name = remAt L name n := by
  unfold remDo
  rw [h]
theorem upDo_bad {L : List Plc} {M : Mod} (h : chkMod M ≠ 0) : upDo L M = ([], chkMod M) := by
  unfold upDo
  rw [if_pos h]
theorem upDo_none {L : List Plc} {M : Mod} (h : chkMod M = 0) (hn : nameIx L M.name = -1) : upDo L M = ([], 5) := by
  unfold upDo
  rw [if_neg (by omega), hn]
  rfl
theorem upDo_at {L : List Plc} {M : Mod} {n : Nat} {p : Plc} (h : chkMod M = 0) (hn : nameIx L M.name = (n : Int)) (hp : L[n]? = some p) : upDo L M = upTo (L.eraseIdx n) M (roomOf (L.eraseIdx n) p.first (szM M)) := by
  have h1 : upDo L M = upAt L M n := by
    unfold upDo
    rw [if_neg (by omega), hn]
  rw [h1]
  unfold upAt
  rw [hp]

theorem runs_from : ∀ {l : List Plc} {e : Int} {r : Int × Int}, r ∈ runsFrom e l → okPl e l → e ≤ r.1
  | [], e, r, hr, _ => by
    have h0 : runsFrom e [] = if e = 16 then [] else [(e, 16 - e)] := rfl
    rw [h0] at hr
    split at hr
    · simp at hr
    · simp at hr
      subst hr
      exact Int.le_refl _
  | p :: l, e, r, hr, ho => by
    obtain ⟨h1, h2, h3, h4⟩ := ho
    have h0 : runsFrom e (p :: l) = (if e = p.first then [] else [(e, p.first - e)]) ++ runsFrom (p.first + szM p.mod) l := rfl
    rw [h0] at hr
    rcases List.mem_append.1 hr with hr | hr
    · split at hr
      · simp at hr
      · simp at hr
        subst hr
        exact Int.le_refl _
    · have := runs_from hr h4
      omega
/-- A sector is free, and so many from there on, just if there is nobody ahead of whose end they would lie. -/
theorem room_runs {x many : Int} (hm : 1 ≤ many) : ∀ {L : List Plc} {e : Int}, okPl e L → e ≤ x → (∀ p ∈ L, p.first + szM p.mod ≤ x ∨ x < p.first) →
    (((runsFrom e L).any fun r => decide (r.1 ≤ x) && decide (x + many ≤ r.1 + r.2)) = true ↔ (x + many ≤ 16 ∧ ∀ p ∈ L, ¬ (x < p.first ∧ p.first < x + many)))
  | [], e, h, he, _ => by
    have h : e ≤ 16 := h
    have hr : runsFrom e [] = if e = 16 then [] else [(e, 16 - e)] := rfl
    rw [hr]
    split
    · simp
      omega
    · simp
      omega
  | p :: l, e, h, he, hx => by
    obtain ⟨h1, h2, h3, h4⟩ := h
    have hr : runsFrom e (p :: l) = (if e = p.first then [] else [(e, p.first - e)]) ++ runsFrom (p.first + szM p.mod) l := rfl
    rw [hr, List.any_append, Bool.or_eq_true]
    have hlat : ∀ q ∈ l, p.first + szM p.mod ≤ q.first := fun q hq => (okPl_first h4 q hq).1
    rcases hx p (by simp) with g | g
    · have ih := room_runs (x := x) (many := many) hm h4 g (fun q hq => hx q (List.mem_cons_of_mem _ hq))
      rw [ih]
      have hno : (List.any (if e = p.first then ([] : List (Int × Int)) else [(e, p.first - e)]) fun r => decide (r.1 ≤ x) && decide (x + many ≤ r.1 + r.2)) = true ↔ False := by
        split
        · simp
        · simp
          omega
      rw [hno, false_or]
      constructor
      · rintro ⟨k1, k2⟩
        refine ⟨k1, fun q hq => ?_⟩
        rcases List.mem_cons.1 hq with rfl | hq
        · omega
        · exact k2 q hq
      · rintro ⟨k1, k2⟩
        exact ⟨k1, fun q hq => k2 q (List.mem_cons_of_mem _ hq)⟩
    · have hno : ((runsFrom (p.first + szM p.mod) l).any fun r => decide (r.1 ≤ x) && decide (x + many ≤ r.1 + r.2)) = true ↔ False := by
        rw [List.any_eq_true]
        constructor
        · rintro ⟨r, hr, hd⟩
          have := runs_from hr h4
          simp at hd
          omega
        · exact False.elim
      rw [hno, or_false, if_neg (by omega)]
      constructor
      · intro hd
        simp at hd
        refine ⟨by omega, fun q hq => ?_⟩
        rcases List.mem_cons.1 hq with rfl | hq
        · omega
        · have := hlat q hq
          omega
      · rintro ⟨k1, k2⟩
        have := k2 p (by simp)
        simp
        omega

end Go.Proofs.YthmohjgdcjafkadGreat

/- The contract of slices.Insert at placed modules: one more in a row of one's own. -/
namespace Go.Proofs.YthmohjgdcjafkadGreat
open Go.RowKit Go.PlainAid Go.Lib

set_option maxRecDepth 100000

theorem pvC_cells {W : World} {B : Nat} {t : TypeId} {y : PV} (h : CellsAt W B t (pvC y).toArray) : ∀ j u, (pvC y)[j]? = some u → W.cell? ((⟨B, 0, none⟩ : Addr).add j) = some u := by
  intro j u hu
  rw [add_none, Nat.zero_add, h.cell j]
  simpa using hu

set_option maxHeartbeats 4000000 in
theorem insEnd_any (v : Value) (n base vb : Nat) (l : List PV) (y : PV) (w : World) (hown : w.ownsRow base 41 8 v n (l.flatMap pvC)) (hn : l.length = n) (hy : ∀ u ∈ pvC y, u.oneCell' = true) (h255 : n ≤ 254) (hvb : CellsAt w vb 41 (pvC y).toArray) (hb : base ≤ w.heap.size) :
    Calls Tryz.prog 120 #[v, .int .i64 n, .slice (some ⟨vb, 0, none⟩) 1 1] w fun e w' => ∃ v', e = .returned v' ∧ w'.ownsRow base 41 8 v' (n + 1) ((l ++ [y]).flatMap pvC) ∧ w.grownBy w' v.ownBlock := by
  obtain ⟨i0, hi0, hz0, hz1, hz2⟩ := infoPlc_parts
  have HN : Hid (∀ j u, (pvC y)[j]? = some u → w.cell? ((⟨vb, 0, none⟩ : Addr).add j) = some u) := pvC_cells hvb
  have HO : Hid (w.ownsRow base 41 8 v n (l.flatMap pvC)) := hown
  have HE : Hid ((l ++ [y]).flatMap pvC = l.flatMap pvC ++ pvC y) := by show _ = _; simp
  have HY : Hid (∀ u ∈ pvC y, u.oneCell' = true) := hy
  obtain ⟨va, vc, rfl⟩ := own_form hown
  have hnc : n ≤ vc := by
    rcases hown.2 with ⟨h1, h2⟩ | ⟨g, cap, cur, h1, _, _, h2, _⟩
    · omega
    · injection h1 with _ _ h1; omega
  have hva : va = none → n = 0 ∧ vc = 0 := by
    rintro rfl
    rcases hown.2 with ⟨h1, h2⟩ | ⟨g, cap, cur, h1, _⟩
    · injection h1 with _ _ h1
      exact ⟨h2, h1⟩
    · simp at h1
  clear hown hy hvb
  go_enter Tryz.func120, Tryz.ntmps120
  rcases va with _ | ⟨ab, ao, asp⟩
  · obtain ⟨rfl, rfl⟩ := hva rfl
    go_wp2_with (at_builtin; refine wpList_append_own _ rfl _ _ 25 rfl base 41 i0 _ 8 128 Tryz.underlying25 hi0 hz0 hz1 hz2 rfl (by decide) _ _ _ rfl HO.out ⟨vb, 0, none⟩ 1 1 (pvC y) rfl rfl HN.out HY.out (by unfold maxLen; omega) (by omega) hb ?_)
    intro v' w1 hown hgrow hnil
    go_wp2
    go_ret
    exact ⟨v', rfl, by rw [HE.out]; exact hown, hgrow⟩
  · by_cases hcv : vc = n
    all_goals
      go_wp2_with (at_builtin; refine wpList_append_own _ rfl _ _ 25 rfl base 41 i0 _ 8 128 Tryz.underlying25 hi0 hz0 hz1 hz2 rfl (by decide) _ _ _ rfl HO.out ⟨vb, 0, none⟩ 1 1 (pvC y) rfl rfl HN.out HY.out (by unfold maxLen; omega) (by omega) hb ?_)
      intro v' w1 hown hgrow hnil
      go_wp2
      go_ret
      exact ⟨v', rfl, by rw [HE.out]; exact hown, hgrow⟩

theorem flat8 (l : List PV) : (l.flatMap pvC).length = l.length * 8 := flat_len (C := pvC) (sz := 8) (fun _ => rfl) l
theorem placed_size : (Tryz.prog.info? 41).map (·.size) = some 8 := by
  obtain ⟨i0, hi0, _, hz1, _⟩ := infoPlc_parts
  rw [hi0]; simp [hz1]
theorem sizeOf_placed (w : World) : (Go.sizeOf 41).run Tryz.prog w = .ok 8 w := by
  obtain ⟨i0, hi0, _, hz1, _⟩ := infoPlc_parts
  simp [Go.sizeOf, typeInfo, hi0, hz1]

set_option maxHeartbeats 4000000 in
theorem insShift_any (g cap n i base vb : Nat) (l : List PV) (y : PV) (w : World) (hown : w.ownsRow base 41 8 (.slice (some ⟨g, 0, none⟩) n cap) n (l.flatMap pvC)) (hn : l.length = n) (hi : i < n) (hroom : n + 1 ≤ cap) (hl : ∀ u ∈ l.flatMap pvC, u.oneCell' = true) (hy : ∀ u ∈ pvC y, u.oneCell' = true) (h255 : n ≤ 254) (hvb : CellsAt w vb 41 (pvC y).toArray) (hgv : vb ≠ g) :
    Calls Tryz.prog 120 #[.slice (some ⟨g, 0, none⟩) n cap, .int .i64 i, .slice (some ⟨vb, 0, none⟩) 1 1] w fun e w' => e = .returned (.slice (some ⟨g, 0, none⟩) (n + 1) cap) ∧ w'.ownsRow base 41 8 (.slice (some ⟨g, 0, none⟩) (n + 1) cap) (n + 1) ((putI l i y).flatMap pvC) ∧ w.grownBy w' (some g) := by
  obtain ⟨i0, hi0, hz0, hz1, hz2⟩ := infoPlc_parts
  have hcap := own_capB hown
  have hyl : (pvC y).length = 8 := rfl
  have hov : ∀ lb cb, (callFunc 153 #[.slice (some ⟨vb, 0, none⟩) 1 1, .slice (some ⟨g, (i + 1) * 8, none⟩) lb cb]).run Tryz.prog w = .ok (.value (.bool false)) w := fun lb cb => by
    rw [run_callFunc_extern Tryz.func153 (by kernel_rfl) (by kernel_rfl) (by kernel_rfl) (e := Extern.SlicesOverlaps.overlaps #[25, 25] #[4]) (by kernel_rfl),
      Lib.run_overlaps_apart w 25 4 41 Tryz.underlying25 8 sizeOf_placed ⟨vb, 0, none⟩ ⟨g, (i + 1) * 8, none⟩ 1 1 lb cb hgv _ _ _ _ (cells_shape hvb) (own_shape hown) (by omega) (hvb.frozen 0) (hvb.frozen _)]
    rfl
  obtain ⟨cs, hcs⟩ : ∃ cs, (l.drop i).flatMap pvC = cs := ⟨_, rfl⟩
  have hdrop : (l.flatMap pvC).drop (i * 8) = cs := by rw [flat_drop (C := pvC) (sz := 8) (fun _ => rfl), hcs]
  have hcl : cs.length = (n - i) * 8 := by rw [← hcs, flat8, List.length_drop, hn]
  obtain ⟨sp, hsp, hw1⟩ := own_widen hown.drew hroom
  have hL1 := own_lay cs _ ((i + 1) * 8) _ hw1
  have hfl : (l.flatMap pvC).length = n * 8 := by rw [flat8, hn]
  obtain ⟨W1, hW1⟩ : ∃ W1, W1 = w.drew.setCells g ((i + 1) * 8) cs := ⟨_, rfl⟩
  rw [← hW1] at hL1
  have hL2 : ∀ W, W1.grownBy W none → W.heap = W1.heap → _ := fun W h1 h2 => own_lay (pvC y) _ (i * 8) W (hL1.1.kept h1 (by cases Value.ownBlock (Value.slice (some ⟨g, 0, none⟩) (n + 1) cap) <;> simp))
  have hm1 : cs.length = Nat.min (n + 1 - i) (n - i) * 8 := by
    have e1 : Nat.min (n + 1 - i) (n - i) = n - i := Nat.min_eq_right (by omega)
    rw [hcl, e1]
  have hm2 : (pvC y).length = Nat.min 1 (n + 1 - i) * 8 := by
    have e1 : Nat.min 1 (n + 1 - i) = 1 := Nat.min_eq_left (by omega)
    rw [hyl, e1]
  have hcp1 : ∀ ty dc sc, (Builtin.copy_ #[25, 25] ty #[.slice (some ⟨g, (i + 1) * 8, none⟩) (n - i) dc, .slice (some ⟨g, i * 8, none⟩) (n + 1 - i) sc]).run Tryz.prog w.drew = .ok (goInt (Nat.min (n + 1 - i) (n - i))) W1 := fun ty dc sc => by
    rw [hW1]
    exact run_copy_rows w.drew _ _ ty 41 i0 8 g ((i + 1) * 8) _ dc ⟨g, i * 8, none⟩ _ sc cs Tryz.underlying25 hi0 hz1 hm1
      (fun j u hj => by
        rw [add_none]
        refine own_cellAt hown ?_
        rw [← hdrop, List.getElem?_drop] at hj
        exact hj)
      (fun j hj => (own_spot hown _ (by omega)).1) (fun j hj => (own_spot hown _ (by omega)).2) (fun u hu => hl u (by rw [← hdrop] at hu; exact List.mem_of_mem_drop hu))
  have hvb1 : ∀ W : World, W.heap = W1.heap → CellsAt W vb 41 (pvC y).toArray := fun W h => by
    have h1 : w.drew.grownBy W1 (some g) := hL1.2
    have := (show CellsAt w.drew vb _ _ from hvb).kept h1 (by intro e; exact hgv (Option.some.inj e))
    unfold CellsAt at this ⊢
    rw [h]; exact this
  have hcp2 : ∀ W : World, W.heap = W1.heap → W1.grownBy W none → ∀ ty dc, (Builtin.copy_ #[25, 25] ty #[.slice (some ⟨g, i * 8, none⟩) (n + 1 - i) dc, .slice (some ⟨vb, 0, none⟩) 1 1]).run Tryz.prog W = .ok (goInt (Nat.min 1 (n + 1 - i))) (W.setCells g (i * 8) (pvC y)) := fun W h hg ty dc =>
    run_copy_rows W _ _ ty 41 i0 8 g (i * 8) _ dc ⟨vb, 0, none⟩ 1 1 (pvC y) Tryz.underlying25 hi0 hz1 hm2
      (pvC_cells (hvb1 W h)) (fun j hj => (own_spot (hL1.1.kept hg (by cases Value.ownBlock (Value.slice (some ⟨g, 0, none⟩) (n + 1) cap) <;> simp)) _ (by omega)).1) (fun j hj => (own_spot (hL1.1.kept hg (by cases Value.ownBlock (Value.slice (some ⟨g, 0, none⟩) (n + 1) cap) <;> simp)) _ (by omega)).2) hy
  have hxs : layL (layL (l.flatMap pvC ++ sp) ((i + 1) * 8) cs) (i * 8) (pvC y) = (putI l i y).flatMap pvC := by
    rw [layL_eq cs _ _ (by rw [List.length_append, hfl, hsp, hcl]; omega)]
    rw [List.drop_of_length_le (by rw [List.length_append, hfl, hsp, hcl]; omega), List.append_nil]
    have ht : (List.take ((i + 1) * 8) (l.flatMap pvC ++ sp)).length = (i + 1) * 8 := by rw [List.length_take, List.length_append, hfl, hsp]; omega
    rw [layL_eq (pvC y) _ _ (by rw [List.length_append, ht, hcl, hyl]; omega)]
    rw [List.drop_append, hyl, ht, List.drop_of_length_le (by rw [ht]; omega), List.nil_append, show i * 8 + 8 - (i + 1) * 8 = 0 by omega, List.drop_zero]
    rw [List.take_append_of_le_length (by rw [ht]; omega), List.take_take, Nat.min_eq_left (by omega), List.take_append_of_le_length (by rw [hfl]; omega), flat_take (C := pvC) (sz := 8) (fun _ => rfl)]
    unfold putI
    rw [List.flatMap_append, List.flatMap_cons, hcs, List.append_assoc]
  have HR : Hid (∀ W : World, W.heap = W1.heap → W1.grownBy W none → (W.setCells g (i * 8) (pvC y)).ownsRow base 41 8 (.slice (some ⟨g, 0, none⟩) (n + 1) cap) (n + 1) ((putI l i y).flatMap pvC) ∧ w.grownBy (W.setCells g (i * 8) (pvC y)) (some g)) := fun W h1 h2 => by
    obtain ⟨k1, k2⟩ := hL2 W h2 h1
    rw [hxs] at k1
    exact ⟨k1, (((grown_drew w _).trans hL1.2).trans (grown_up h2)).trans k2⟩
  have hne1 : ¬ ((1 : Int) = 0) := by omega
  have hz2' : ¬ ((i : Int) = (n : Int)) := by omega
  have hin : i ≤ n := by omega
  have hb1 : (0 : Int) ≤ (i : Int) + 1 := by omega
  have hb3 : (i : Int) ≤ (n : Int) + 1 := by omega
  have hcn : ¬ (cap = i + 1) := by omega
  have hcn' : ¬ (cap = i) := by omega
  have hwr1 : IntKind.i64.wrap ((i : Int) + 1) = (i : Int) + 1 := by rw [IntKind.wrap_i64]; omega
  have hwr2 : IntKind.i64.wrap ((n : Int) + 1) = (n : Int) + 1 := by rw [IntKind.wrap_i64]; omega
  have mixed : Tryz.prog.follows Departure.mixedOrders = true := by kernel_rfl
  have HC1 : Hid _ := hcp1
  have HC2 : Hid _ := hcp2
  have HOV : Hid _ := hov
  clear hm1 hm2 hcp1 hcp2 hL2 hL1 hw1 hxs hvb1 hdrop hcs hown hl hy hvb hsp hfl hyl hcl hov hW1
  go_enter Tryz.func120, Tryz.ntmps120
  go_wp2_with (simp only [HOV.out])
  go_region_law_o (refine step_copy_run2 rfl _ _ 25 25 rfl (.slice (some ⟨g, (i + 1) * 8, none⟩) (n - i) (cap - (i + 1))) (.slice (some ⟨g, i * 8, none⟩) (n + 1 - i) (cap - i)) (by simp [Act.eval, Act.put]) (by simp [Act.eval, Act.put]) (HC1.out 3 (cap - (i + 1)) (cap - i)) ?_)
  go_wp2_with fail
  rw [HC2.out W1 rfl (grown_refl W1 none)]
  simp only [Result.andThen]
  rw [Oper.upon_value]
  go_wp2
  go_ret
  exact ⟨rfl, (HR.out W1 rfl (grown_refl _ _)).1, (HR.out W1 rfl (grown_refl _ _)).2⟩

set_option maxHeartbeats 4000000 in
theorem insGrow_any (g n i base vb : Nat) (l : List PV) (y : PV) (w : World) (hown : w.ownsRow base 41 8 (.slice (some ⟨g, 0, none⟩) n n) n (l.flatMap pvC)) (hn : l.length = n) (hi : i < n) (hl : ∀ u ∈ l.flatMap pvC, u.oneCell' = true) (hy : ∀ u ∈ pvC y, u.oneCell' = true) (h255 : n ≤ 254) (hvb : CellsAt w vb 41 (pvC y).toArray) (hb : base ≤ w.heap.size) :
    Calls Tryz.prog 120 #[.slice (some ⟨g, 0, none⟩) n n, .int .i64 i, .slice (some ⟨vb, 0, none⟩) 1 1] w fun e w' => ∃ v', e = .returned v' ∧ w'.ownsRow base 41 8 v' (n + 1) ((putI l i y).flatMap pvC) ∧ w.grownBy w' (some w.heap.size) := by
  obtain ⟨i0, hi0, hz0, hz1, hz2⟩ := infoPlc_parts
  have hyl : (pvC y).length = 8 := rfl
  have hfl : (l.flatMap pvC).length = n * 8 := by rw [flat8, hn]
  obtain ⟨cs, hcs⟩ : ∃ cs, (l.drop i).flatMap pvC = cs := ⟨_, rfl⟩
  have hdrop : (l.flatMap pvC).drop (i * 8) = cs := by rw [flat_drop (C := pvC) (sz := 8) (fun _ => rfl), hcs]
  have hcl : cs.length = (n - i) * 8 := by rw [← hcs, flat8, List.length_drop, hn]
  obtain ⟨os, hos⟩ : ∃ os, (l.take i).flatMap pvC = os := ⟨_, rfl⟩
  have htake : (l.flatMap pvC).take (i * 8) = os := by rw [flat_take (C := pvC) (sz := 8) (fun _ => rfl), hos]
  have hol : os.length = i * 8 := by rw [← hos, flat8, List.length_take, hn, Nat.min_eq_left (by omega)]
  have hgw : g < w.heap.size := (hown.lt g rfl).2
  have hvw : vb < w.heap.size := hvb.lt
  obtain ⟨z, hz⟩ : ∃ z : Value, z = .agg #[.string ⟨#[]⟩, .int .i64 0, .int .i64 0, .string ⟨#[]⟩, .slice none 0 0, .slice none 0 0, .slice none 0 0, .int .i64 0] := ⟨_, rfl⟩
  have hzc : z.cells.size = 8 := by rw [hz]; rfl
  rw [← hz] at hz0
  have hold : (Builtin.firstCells i0.size i (.slice (some ⟨g, 0, none⟩) i n)).run Tryz.prog w.drew = .ok os.toArray w.drew := by
    rw [hz1]
    exact run_firstCells_some w.drew 8 i ⟨g, 0, none⟩ i n os hol (fun j u hj => by
      rw [add_none, Nat.zero_add]
      refine own_cellAt hown ?_
      rw [← htake, List.getElem?_take] at hj
      split at hj
      · exact hj
      · cases hj)
  obtain ⟨G, hG⟩ : ∃ G, G = grownCap w (n + 1) n 41 := ⟨_, rfl⟩
  obtain ⟨ROW, hROW⟩ : ∃ ROW : Array Value, ROW = os.toArray ++ Builtin.zeroCells z.cells (n + 1 - i) ++ Builtin.zeroCells z.cells (G - (n + 1)) := ⟨_, rfl⟩
  obtain ⟨W1, hW1⟩ : ∃ W1, W1 = w.drew.alloc (.cells ROW 41) := ⟨_, rfl⟩
  have hrz : ∀ ty, (Builtin.append_ #[25, 3] ty #[.slice (some ⟨g, 0, none⟩) i n, .int .i64 ((n : Int) + 1 - (i : Int))]).run Tryz.prog w = .ok (.slice (some ⟨w.heap.size, 0, none⟩) (n + 1) G) W1 := fun ty => by
    have h := Lib.run_append_grow_zeros w 25 3 ty 41 i0 z .i64 .i64 Tryz.underlying25 Tryz.underlying3 hi0 hz0 (some ⟨g, 0, none⟩) i n os hold (n + 1 - i) (by omega) (by omega) (by omega) (by omega) (by rw [hz2]; omega) (by
      rw [hz2]
      exact growslice_fits (by omega) (by omega))
    rw [show i + (n + 1 - i) = n + 1 by omega, ← hG, ← hROW, ← hW1] at h
    rw [show (n : Int) + 1 - (i : Int) = ((n + 1 - i : Nat) : Int) by omega]
    exact h
  have hGn : n + 1 ≤ G := by rw [hG]; exact grownCap_ge w _ _ _
  have hG63 : G ≤ maxLen := by rw [hG]; exact grownCap_le_maxLen w (n + 1) n 41 (by unfold maxLen; omega)
  have hzl : (Builtin.zeroCells z.cells (n + 1 - i)).toList.length = (n + 1 - i) * 8 := by rw [Array.length_toList, size_zeroCells, hzc]
  have ho1 : W1.ownsRow base 41 8 (.slice (some ⟨w.heap.size, 0, none⟩) (n + 1) G) (n + 1) (os ++ (Builtin.zeroCells z.cells (n + 1 - i)).toList) := by
    rw [hW1]
    refine ⟨by rw [List.length_append, hol, hzl]; omega, .inr ⟨w.heap.size, G, ROW, rfl, hb, heap_alloc_new w.drew _, hGn, hG63, ?_, ?_⟩⟩
    · rw [hROW]
      simp only [Array.size_append, List.size_toArray, size_zeroCells, hzc, hol]
      omega
    · rw [hROW]
      simp only [Array.toList_append]
      exact List.take_left' (by rw [List.length_append, hol, hzl]; omega)
  have hg1 : w.grownBy W1 (some w.heap.size) := by rw [hW1]; exact (grown_drew w _).trans (World.grownBy_alloc _ _ _)
  obtain ⟨zs, hzs⟩ : ∃ zs, (Builtin.zeroCells z.cells (n + 1 - i)).toList = zs := ⟨_, rfl⟩
  rw [hzs] at ho1 hzl
  have hm2 : (pvC y).length = Nat.min 1 (n + 1 - i) * 8 := by
    have e1 : Nat.min 1 (n + 1 - i) = 1 := Nat.min_eq_left (by omega)
    rw [hyl, e1]
  have hm1 : cs.length = Nat.min (n - i) (n - i) * 8 := by
    have e1 : Nat.min (n - i) (n - i) = n - i := Nat.min_self _
    rw [hcl, e1]
  -- the first copy
  have hcpA : ∀ W : World, W1.grownBy W none → W.heap = W1.heap → ∀ ty dc, (Builtin.copy_ #[25, 25] ty #[.slice (some ⟨w.heap.size, i * 8, none⟩) (n + 1 - i) dc, .slice (some ⟨vb, 0, none⟩) 1 1]).run Tryz.prog W = .ok (goInt (Nat.min 1 (n + 1 - i))) (W.setCells w.heap.size (i * 8) (pvC y)) := fun W hg h ty dc => by
    have ho : W.ownsRow base 41 8 (.slice (some ⟨w.heap.size, 0, none⟩) (n + 1) G) (n + 1) (os ++ zs) := ho1.kept hg (by cases Value.ownBlock (Value.slice (some ⟨w.heap.size, 0, none⟩) (n + 1) G) <;> simp)
    have hv : CellsAt W vb 41 (pvC y).toArray := (hvb.kept hg1 (by intro e; have := Option.some.inj e; omega)).kept hg (by simp)
    exact run_copy_rows W _ _ ty 41 i0 8 w.heap.size (i * 8) _ dc ⟨vb, 0, none⟩ 1 1 (pvC y) Tryz.underlying25 hi0 hz1 hm2 (pvC_cells hv) (fun j hj => (own_spot ho _ (by omega)).1) (fun j hj => (own_spot ho _ (by omega)).2) hy
  have hA : ∀ W : World, W1.grownBy W none → (W.setCells w.heap.size (i * 8) (pvC y)).ownsRow base 41 8 (.slice (some ⟨w.heap.size, 0, none⟩) (n + 1) G) (n + 1) (layL (os ++ zs) (i * 8) (pvC y)) ∧ w.grownBy (W.setCells w.heap.size (i * 8) (pvC y)) (some w.heap.size) := fun W hg => by
    have ho : W.ownsRow base 41 8 (.slice (some ⟨w.heap.size, 0, none⟩) (n + 1) G) (n + 1) (os ++ zs) := ho1.kept hg (by cases Value.ownBlock (Value.slice (some ⟨w.heap.size, 0, none⟩) (n + 1) G) <;> simp)
    obtain ⟨k1, k2⟩ := own_lay (pvC y) _ (i * 8) W ho
    exact ⟨k1, (hg1.trans (grown_up hg)).trans k2⟩
  have hcpB : ∀ W : World, w.grownBy W (some w.heap.size) → W.ownsRow base 41 8 (.slice (some ⟨w.heap.size, 0, none⟩) (n + 1) G) (n + 1) (layL (os ++ zs) (i * 8) (pvC y)) → ∀ ty dc sc, (Builtin.copy_ #[25, 25] ty #[.slice (some ⟨w.heap.size, (i + 1) * 8, none⟩) (n - i) dc, .slice (some ⟨g, i * 8, none⟩) (n - i) sc]).run Tryz.prog W = .ok (goInt (Nat.min (n - i) (n - i))) (W.setCells w.heap.size ((i + 1) * 8) cs) := fun W hg ho ty dc sc => by
    have hs : W.ownsRow base 41 8 (.slice (some ⟨g, 0, none⟩) n n) n (l.flatMap pvC) := hown.kept hg (.inr (by simp [Value.ownBlock]; omega))
    exact run_copy_rows W _ _ ty 41 i0 8 w.heap.size ((i + 1) * 8) _ dc ⟨g, i * 8, none⟩ _ sc cs Tryz.underlying25 hi0 hz1 hm1
      (fun j u hj => by
        rw [add_none]
        refine own_cellAt hs ?_
        rw [← hdrop, List.getElem?_drop] at hj
        exact hj)
      (fun j hj => (own_spot ho _ (by omega)).1) (fun j hj => (own_spot ho _ (by omega)).2) (fun u hu => hl u (by rw [← hdrop] at hu; exact List.mem_of_mem_drop hu))
  have hxs : layL (layL (os ++ zs) (i * 8) (pvC y)) ((i + 1) * 8) cs = (putI l i y).flatMap pvC := by
    rw [layL_eq (pvC y) _ _ (by rw [List.length_append, hol, hzl, hyl]; omega)]
    rw [List.take_left' hol]
    have hlen : (os ++ pvC y).length = (i + 1) * 8 := by rw [List.length_append, hol, hyl]; omega
    rw [layL_eq cs _ _ (by rw [List.length_append, hlen, List.length_drop, List.length_append, hol, hzl, hcl, hyl]; omega)]
    rw [List.take_left' hlen, List.drop_of_length_le (by rw [List.length_append, hlen, List.length_drop, List.length_append, hol, hzl, hcl, hyl]; omega), List.append_nil]
    unfold putI
    rw [List.flatMap_append, List.flatMap_cons, hcs, hos, List.append_assoc]
  have HB : Hid (∀ W : World, w.grownBy W (some w.heap.size) → W.ownsRow base 41 8 (.slice (some ⟨w.heap.size, 0, none⟩) (n + 1) G) (n + 1) (layL (os ++ zs) (i * 8) (pvC y)) → (W.setCells w.heap.size ((i + 1) * 8) cs).ownsRow base 41 8 (.slice (some ⟨w.heap.size, 0, none⟩) (n + 1) G) (n + 1) ((putI l i y).flatMap pvC) ∧ w.grownBy (W.setCells w.heap.size ((i + 1) * 8) cs) (some w.heap.size)) := fun W h1 h2 => by
    obtain ⟨k1, k2⟩ := own_lay cs _ ((i + 1) * 8) W h2
    rw [hxs] at k1
    exact ⟨k1, h1.trans k2⟩
  have HA : Hid _ := hA
  have HCA : Hid _ := hcpA
  have HCB : Hid _ := hcpB
  have HRZ : Hid _ := hrz
  have hne1 : ¬ ((1 : Int) = 0) := by omega
  have hz2' : ¬ ((i : Int) = (n : Int)) := by omega
  have hin : i ≤ n := by omega
  have hb1 : (0 : Int) ≤ (i : Int) + 1 := by omega
  have hb3 : (i : Int) ≤ (n : Int) + 1 := by omega
  have hb4 : (i : Int) ≤ (n : Int) := by omega
  have hgt : (n : Int) < (n : Int) + 1 := by omega
  have hcn' : ¬ (n = i) := by omega
  have hGi : ¬ (G = i) := by omega
  have hGi1 : ¬ (G = i + 1) := by omega
  have hwr1 : IntKind.i64.wrap ((i : Int) + 1) = (i : Int) + 1 := by rw [IntKind.wrap_i64]; omega
  have hwr2 : IntKind.i64.wrap ((n : Int) + 1) = (n : Int) + 1 := by rw [IntKind.wrap_i64]; omega
  have hwr3 : IntKind.i64.wrap ((n : Int) + 1 - (i : Int)) = (n : Int) + 1 - (i : Int) := by rw [IntKind.wrap_i64]; omega
  have htn : ((i : Int) + 1).toNat = i + 1 := by omega
  have mixed : Tryz.prog.follows Departure.mixedOrders = true := by kernel_rfl
  clear hm1 hm2 hcpA hcpB hA hrz hxs hdrop htake hcs hos hown hl hy hvb hfl hyl hcl hol hW1 hROW hG ho1 hg1 hzs hzl hold hz hzc hz0
  go_enter Tryz.func120, Tryz.ntmps120
  go_wp2_with (at_builtin; refine Lib.wpList_append_run _ rfl _ _ _ _ rfl _ _ rfl rfl _ _ (HRZ.out _) ?_)
  rw [HCA.out W1 (grown_refl W1 none) rfl]
  simp only [Result.andThen]
  rw [Oper.upon_value]
  obtain ⟨hA1, hA2⟩ := HA.out W1 (grown_refl W1 none)
  have HO2 : Hid _ := hA1
  have HG2 : Hid _ := hA2
  clear hA1 hA2
  generalize W1.setCells w.heap.size (i * 8) (pvC y) = W2 at *
  go_wp2_with fail
  go_region_law_o (refine step_copy_run2 rfl _ _ 25 25 rfl (.slice (some ⟨w.heap.size, (i + 1) * 8, none⟩) (n - i) (G - (i + 1))) (.slice (some ⟨g, i * 8, none⟩) (n - i) (n - i)) (by simp [Act.eval, Act.put]) (by simp [Act.eval, Act.put]) (HCB.out W2.drew (HG2.out.trans (grown_drew W2 _)) HO2.out 3 (G - (i + 1)) (n - i)) ?_)
  go_wp2
  go_ret
  obtain ⟨k1, k2⟩ := HB.out W2.drew (HG2.out.trans (grown_drew W2 _)) HO2.out
  exact ⟨_, rfl, k1, k2⟩

theorem grown_new {W W' : World} {b : Option Nat} (h : W.grownBy W' (some W.heap.size)) : W.grownBy W' b := ⟨h.os, h.tape, h.output, h.size, fun k hk _ => h.block k hk (by intro e; have := Option.some.inj e; omega)⟩
theorem insPlc_any (v : Value) (n i base vb : Nat) (l : List PV) (y : PV) (w : World) (hown : w.ownsRow base 41 8 v n (l.flatMap pvC)) (hn : l.length = n) (hi : i ≤ n) (hl : ∀ u ∈ l.flatMap pvC, u.oneCell' = true) (hy : ∀ u ∈ pvC y, u.oneCell' = true) (h255 : n ≤ 254) (hvb : CellsAt w vb 41 (pvC y).toArray) (hgv : v.ownBlock ≠ some vb) (hb : base ≤ w.heap.size) :
    Calls Tryz.prog 120 #[v, .int .i64 i, .slice (some ⟨vb, 0, none⟩) 1 1] w fun e w' => ∃ v', e = .returned v' ∧ w'.ownsRow base 41 8 v' (n + 1) ((putI l i y).flatMap pvC) ∧ w.grownBy w' v.ownBlock := by
  by_cases hin : i = n
  · subst hin
    refine (insEnd_any v i base vb l y w hown hn hy h255 hvb hb).mono ?_
    rintro e w' ⟨v', rfl, h1, h2⟩
    refine ⟨v', rfl, ?_, h2⟩
    have : putI l i y = l ++ [y] := by
      unfold putI
      rw [List.take_of_length_le (by omega), List.drop_of_length_le (by omega)]
    rw [this]
    exact h1
  · obtain ⟨g, cap, cur, rfl, -⟩ : ∃ g cap cur, v = .slice (some ⟨g, 0, none⟩) n cap ∧ w.heap[g]? = some (.cells cur 41 (0, 0)) := by
      rcases hown.2 with ⟨_, h0⟩ | ⟨g, cap, cur, h1, _, h2, _⟩
      · omega
      · exact ⟨g, cap, cur, h1, h2⟩
    have hcap := own_capB hown
    by_cases hroom : n + 1 ≤ cap
    · refine (insShift_any g cap n i base vb l y w hown hn (by omega) hroom hl hy h255 hvb (by intro e; subst e; exact hgv rfl)).mono ?_
      rintro e w' ⟨rfl, h1, h2⟩
      exact ⟨_, rfl, h1, h2⟩
    · obtain rfl : cap = n := by omega
      refine (insGrow_any g cap i base vb l y w hown hn (by omega) hl hy h255 hvb hb).mono ?_
      rintro e w' ⟨v', rfl, h1, h2⟩
      exact ⟨v', rfl, h1, grown_new h2⟩

end Go.Proofs.YthmohjgdcjafkadGreat
