/- Texts that are laid together. -/
import Derived.Test.YthmohjgdcjafkaeGreatMrgL
import Derived.Test.YthmohjgdcjafkaeGreatMrgA
import Derived.Test.YthmohjgdcjafkaeGreatMrgQ
import Derived.Test.YthmohjgdcjafkaeGreatMrgN
import Derived.Laws.ResultCell
import Derived.Test.YthmohjgdcjafkaeGreatMrgP

/- Where images lie in the area, byte by byte, as data; and what an image does not hang on. -/
namespace Go.Proofs.YthmohjgdcjafkaeGreat
open Go.RowKit Go.PlainAid

theorem bt_app_left {a b : ByteArray} {i : Nat} (h : i < a.size) : bt (a ++ b) i = bt a i := by
  rw [bt_list, bt_list, bytes_app, List.getElem?_append_left (by rw [← size_list]; exact h)]
theorem bt_app_right {a b : ByteArray} {i : Nat} (h : a.size ≤ i) : bt (a ++ b) i = bt b (i - a.size) := by
  rw [bt_list, bt_list, bytes_app, List.getElem?_append_right (by rw [← size_list]; exact h), ← size_list]
theorem bt_blanks {n i : Nat} (h : i < n) : bt (blanks n) i = 255 := by
  rw [bt_list, blanks_list, List.getElem?_replicate, if_pos h]
  rfl
theorem bt_fill_left {s : ByteArray} {n i : Nat} (h : i < s.size) : bt (fillTo s n) i = bt s i := bt_app_left h
theorem bt_fill_right {s : ByteArray} {n i : Nat} (h : s.size ≤ i) (hn : i < n) : bt (fillTo s n) i = 255 := by
  unfold fillTo
  rw [bt_app_right h, bt_blanks (by omega)]

/-- Is a byte none of those that a patch is put into? -/
def clearOf (p : Pat) (i : Nat) : Prop := (i : Int) < p.pos ∨ p.pos + width p.kind ≤ i
theorem width_nonneg (k : Int) : 0 ≤ width k := by
  unfold width
  split
  · omega
  · split
    · omega
    · split <;> omega
theorem app_out {s : ByteArray} {p : Pat} {sym base : Int} (h : appErr s.size p sym base = 0) {i : Nat} (hi : clearOf p i) : bt (appStr s p sym base) i = bt s i := by
  have hw := width_nonneg p.kind
  have hp : 0 ≤ p.pos ∧ p.pos + width p.kind ≤ s.size := by
    have h' := h
    unfold appErr at h'
    split at h'
    · omega
    · split at h'
      · omega
      · rename_i _ hb
        simp only [Bool.not_eq_false, Bool.and_eq_true, betw_iff] at hb
        omega
  unfold appStr
  rw [if_pos h]
  unfold clearOf at hi
  exact bt_put_out _ _ _ _ _ (by omega) (by omega)
theorem patd_out {ads : List Int} {beg : Int} : ∀ {l : List Pat} {s : ByteArray}, (patd ads beg s l).2 = 0 → ∀ {i : Nat}, (∀ p ∈ l, clearOf p i) → bt (patd ads beg s l).1 i = bt s i
  | [], s, _, i, _ => rfl
  | p :: r, s, h, i, hi => by
    unfold patd at h ⊢
    by_cases h0 : appErr s.size p (symOf ads beg p) beg = 0
    · rw [if_neg (by omega)] at h ⊢
      rw [patd_out h (fun q hq => hi q (List.mem_cons_of_mem _ hq)), app_out h0 (hi p (by simp))]
    · rw [if_pos h0] at h
      exact absurd h h0
theorem img_byte {K : Ker} {L : List Plc} {p : Plc} (h : (imgRes K L p).2 = 0) : (imgRes K L p).1.size = 64 * szM p.mod ∧ p.mod.text.size ≤ 64 * szM p.mod ∧
    (∀ n, n < 64 * szM p.mod → p.mod.text.size ≤ n → bt (imgRes K L p).1 n = 255) ∧ (∀ n, n < p.mod.text.size → (∀ q ∈ p.mod.pats, clearOf q n) → bt (imgRes K L p).1 n = bt p.mod.text n) := by
  refine ⟨imgRes_size h, szM_le _, ?_⟩
  rcases imgRes_cases K L p with ⟨h1, e⟩ | ⟨h1, h2, e⟩ | ⟨h1, h2, e⟩
  · rw [e] at h; exact absurd h h1
  · rw [e] at h; exact absurd h h2
  · rw [e]
    have hs := patd_size h2
    refine ⟨fun n hn ht => bt_fill_right (by omega) hn, fun n hn hq => ?_⟩
    rw [bt_fill_left (by omega), patd_out h2 hq]

theorem area_byte {K : Ker} {L : List Plc} : ∀ (l : List Plc) (s : ByteArray) (e : Nat), okPl e l → s.size ≤ 64 * e → (areaFrom K L s l).2 = 0 →
    (areaFrom K L s l).1.size = 1024 ∧ (∀ i, i < s.size → bt (areaFrom K L s l).1 i = bt s i) ∧
    (∀ p ∈ l, (imgRes K L p).2 = 0 ∧ ∀ n, n < 64 * szM p.mod → bt (areaFrom K L s l).1 (64 * p.first.toNat + n) = bt (imgRes K L p).1 n) ∧
    (∀ i, s.size ≤ i → i < 1024 → (∀ p ∈ l, i < 64 * p.first.toNat ∨ 64 * p.first.toNat + 64 * szM p.mod ≤ i) → bt (areaFrom K L s l).1 i = 255)
  | [], s, e, hok, hs, h => by
    have he : (e : Int) ≤ 16 := hok
    have hn : areaFrom K L s [] = (fillTo s 1024, 0) := rfl
    rw [hn]
    exact ⟨fillTo_size (by omega), fun i hi => bt_fill_left hi, fun p hp => absurd hp (by simp), fun i h1 h2 _ => bt_fill_right h1 h2⟩
  | p :: r, s, e, hok, hs, h => by
    obtain ⟨p1, p2, p3, p4⟩ := hok
    have hst : areaFrom K L s (p :: r) = if (imgRes K L p).2 ≠ 0 then (⟨#[]⟩, (imgRes K L p).2) else areaFrom K L (fillTo s (64 * p.first.toNat) ++ (imgRes K L p).1) r := rfl
    by_cases h0 : (imgRes K L p).2 = 0
    · rw [if_neg (by omega)] at hst
      rw [hst] at h ⊢
      have hsz := imgRes_size h0
      have hfs : (fillTo s (64 * p.first.toNat)).size = 64 * p.first.toNat := fillTo_size (by omega)
      have hap : (fillTo s (64 * p.first.toNat) ++ (imgRes K L p).1).size = 64 * (p.first.toNat + szM p.mod) := by rw [ByteArray.size_append, hfs, hsz]; omega
      obtain ⟨g1, g2, g3, g4⟩ := area_byte r _ (p.first.toNat + szM p.mod) (by rw [show ((p.first.toNat + szM p.mod : Nat) : Int) = p.first + szM p.mod by omega]; exact p4) (by omega) h
      refine ⟨g1, fun i hi => ?_, fun q hq => ?_, fun i h1 h2 h3 => ?_⟩
      · rw [g2 i (by omega), bt_app_left (by omega), bt_fill_left hi]
      · rcases List.mem_cons.1 hq with rfl | hq
        · refine ⟨h0, fun n hn => ?_⟩
          rw [g2 _ (by omega), bt_app_right (by omega), hfs, Nat.add_sub_cancel_left]
        · exact g3 q hq
      · by_cases hi : i < 64 * (p.first.toNat + szM p.mod)
        · have := h3 p (by simp)
          rw [g2 i (by omega), bt_app_left (by omega), bt_fill_right h1 (by omega)]
        · exact g4 i (by omega) h2 (fun q hq => h3 q (List.mem_cons_of_mem _ hq))
    · rw [hst, if_pos h0] at h
      exact absurd h h0

theorem find_nodup : ∀ {L : List Plc}, (L.map (·.mod.name)).Nodup → ∀ {p : Plc}, p ∈ L → L.find? (fun q => q.mod.name == p.mod.name) = some p
  | [], _, p, hp => absurd hp (by simp)
  | x :: l, h, p, hp => by
    rw [List.map_cons, List.nodup_cons] at h
    rcases List.mem_cons.1 hp with rfl | hp
    · have hb : (p.mod.name == p.mod.name) = true := (Go.MapKept.bytes_beq _ _).2 rfl
      exact List.find?_cons_of_pos (p := fun q : Plc => q.mod.name == p.mod.name) hb
    · have hne : x.mod.name ≠ p.mod.name := fun e => h.1 (e ▸ List.mem_map.2 ⟨p, hp, rfl⟩)
      have hb : ¬ (x.mod.name == p.mod.name) = true := fun e => hne ((Go.MapKept.bytes_beq _ _).1 e)
      exact (List.find?_cons_of_neg (p := fun q : Plc => q.mod.name == p.mod.name) hb).trans (find_nodup h.2 hp)
/-- The image of one that is there. -/
theorem imageOf_at {K : Ker} {L : List Plc} (h : chkLink K L = 0) {p : Plc} (hp : p ∈ L) : imageOf K L p.mod.name = imgRes K L p := by
  have ht := twice_nodup L [] (by simp)
  rw [List.nil_append] at ht
  unfold imageOf
  rw [if_neg (by omega), find_nodup (ht.1 (chkLink_zero h).2.2) hp]
theorem areaOf_zero {K : Ker} {L : List Plc} (h : (areaOf K L).2 = 0) : chkLink K L = 0 ∧ areaOf K L = areaFrom K L ⟨#[]⟩ L ∧ (areaFrom K L ⟨#[]⟩ L).2 = 0 := by
  unfold areaOf at h ⊢
  by_cases h0 : chkLink K L = 0
  · rw [if_neg (by omega)] at h ⊢
    exact ⟨h0, rfl, h⟩
  · rw [if_pos h0] at h
    exact absurd h h0
theorem areaOf_bad {K : Ker} {L : List Plc} (h : (areaOf K L).2 ≠ 0) : (areaOf K L).1 = ⟨#[]⟩ := by
  have key : ∀ l s, (areaFrom K L s l).2 ≠ 0 → (areaFrom K L s l).1 = ⟨#[]⟩ := by
    intro l
    induction l with
    | nil => intro s h; exact absurd rfl h
    | cons p r ih =>
      intro s h
      have hst : areaFrom K L s (p :: r) = if (imgRes K L p).2 ≠ 0 then (⟨#[]⟩, (imgRes K L p).2) else areaFrom K L (fillTo s (64 * p.first.toNat) ++ (imgRes K L p).1) r := rfl
      rw [hst] at h ⊢
      by_cases h0 : (imgRes K L p).2 = 0
      · rw [if_neg (by omega)] at h ⊢
        exact ih _ h
      · rw [if_pos h0]
  unfold areaOf at h ⊢
  by_cases h0 : chkLink K L = 0
  · rw [if_neg (by omega)] at h ⊢
    exact key _ _ h
  · rw [if_pos h0]

/-- All that is asked of modules but for their texts' bytes. -/
def blurM (m : Mod) : Mod := ⟨m.name, m.major, m.minor, blanks m.text.size, m.exps, m.imps, m.pats⟩
def blur (p : Plc) : Plc := ⟨blurM p.mod, p.first⟩
theorem chkMod_blur (m : Mod) : chkMod (blurM m) = chkMod m := by
  unfold chkMod blurM
  dsimp only
  rw [blanks_size]
theorem szM_blur (m : Mod) : szM (blurM m) = szM m := by
  unfold szM blurM
  dsimp only
  rw [blanks_size]
theorem chkBy_blur {q : Plc → Int} (hq : ∀ p, q (blur p) = q p) : ∀ L : List Plc, chkBy q (L.map blur) = chkBy q L
  | [] => rfl
  | p :: l => by
    have hs : ∀ (p : Plc) l, chkBy q (p :: l) = if chkMod p.mod ≠ 0 then chkMod p.mod else if q p ≠ 0 then q p else chkBy q l := fun _ _ => rfl
    rw [List.map_cons, hs, hs, hq, chkBy_blur hq l]
    have hm : chkMod (blur p).mod = chkMod p.mod := chkMod_blur p.mod
    rw [hm]
theorem behind_blur : ∀ (L : List Plc) (e : Int), behind e (L.map blur) = behind e L
  | [], _ => rfl
  | p :: l, e => by
    have hs : ∀ (p : Plc) l e, behind e (p :: l) = (!decide (p.first < e) && behind (p.first + szM p.mod) l) := fun _ _ _ => rfl
    rw [List.map_cons, hs, hs, behind_blur l]
    show (!decide (p.first < e) && behind (p.first + szM (blurM p.mod)) l) = _
    rw [szM_blur]
theorem chkReg_blur (L : List Plc) : chkReg (L.map blur) = chkReg L := by
  unfold chkReg
  rw [chkBy_blur (fun p => by
    unfold outErr
    show (if p.first < 0 ∨ 16 - (szM (blurM p.mod) : Int) < p.first then (3 : Int) else 0) = _
    rw [szM_blur]) L, behind_blur, List.length_map]
theorem twice_blur : ∀ (L : List Plc) (met : List ByteArray), twiceFrom met (L.map blur) = twiceFrom met L
  | [], _ => rfl
  | p :: l, met => by
    have hs : ∀ (p : Plc) l met, twiceFrom met (p :: l) = ((met.any fun y => y == p.mod.name) || twiceFrom (met ++ [p.mod.name]) l) := fun _ _ _ => rfl
    rw [List.map_cons, hs, hs, twice_blur l]
    rfl
theorem chkLink_blur (K : Ker) (L : List Plc) : chkLink K (L.map blur) = chkLink K L := by
  unfold chkLink
  rw [chkReg_blur, twice_blur]
theorem chkFind_blur (K : Ker) (L : List Plc) : chkFind K (L.map blur) = chkFind K L := by
  unfold chkFind chkPlaced
  rw [chkPls_by, chkPls_by, chkBy_blur (fun _ => rfl) L, List.length_map]
theorem tgt_blur (K : Ker) (L : List Plc) (n : ByteArray) : tgtOf K (L.map blur) n = tgtOf K L n := by
  unfold tgtOf
  rw [List.find?_map]
  have : ((fun p : Plc => p.mod.name == n) ∘ blur) = fun p : Plc => p.mod.name == n := rfl
  rw [this]
  cases L.find? fun p : Plc => p.mod.name == n <;> rfl
theorem addr_blur (K : Ker) (L : List Plc) (i : Imp) : addrOf K (L.map blur) i = addrOf K L i := by
  unfold addrOf
  rw [tgt_blur]
theorem addrs_blur (K : Ker) (L : List Plc) : ∀ (is : List Imp) (acc : List Int), addrsFrom K (L.map blur) acc is = addrsFrom K L acc is
  | [], _ => rfl
  | i :: r, acc => by
    have hs : ∀ L, addrsFrom K L acc (i :: r) = if (addrOf K L i).2 ≠ 0 then ([], (addrOf K L i).2) else addrsFrom K L (acc ++ [(addrOf K L i).1]) r := fun _ => rfl
    rw [hs, hs, addr_blur, addrs_blur K L r]
theorem all_blur (K : Ker) (L : List Plc) (m : Mod) : allRes K (L.map blur) m = allRes K L m := by
  unfold allRes
  rw [chkFind_blur, addrs_blur]
theorem img_blur (K : Ker) (L : List Plc) (p : Plc) : imgRes K (L.map blur) p = imgRes K L p := by
  unfold imgRes
  rw [all_blur]
/-- Another text of the same size changes no image of another one. -/
theorem image_alone (K : Ker) {L L' : List Plc} (hb : L'.map blur = L.map blur) {p : Plc} (h1 : p ∈ L) (h2 : p ∈ L') : imageOf K L' p.mod.name = imageOf K L p.mod.name := by
  have hc : chkLink K L' = chkLink K L := by rw [← chkLink_blur, hb, chkLink_blur]
  by_cases h0 : chkLink K L = 0
  · rw [imageOf_at h0 h1, imageOf_at (hc.trans h0) h2, ← img_blur, hb, img_blur]
  · unfold imageOf
    rw [hc, if_pos h0, if_pos h0]

end Go.Proofs.YthmohjgdcjafkaeGreat

/- What is moved by whole sectors stays right, as data. -/
namespace Go.Proofs.YthmohjgdcjafkaeGreat
open Go.RowKit Go.PlainAid

/-- The same modules, in the same order. -/
theorem find_mods : ∀ {L L' : List Plc} (name : ByteArray), L'.map (·.mod) = L.map (·.mod) →
    (L.find? (fun p => p.mod.name == name) = none ∧ L'.find? (fun p => p.mod.name == name) = none) ∨ ∃ p p', L.find? (fun p => p.mod.name == name) = some p ∧ L'.find? (fun p => p.mod.name == name) = some p' ∧ p'.mod = p.mod ∧ p ∈ L ∧ p' ∈ L'
  | [], [], _, _ => .inl ⟨rfl, rfl⟩
  | [], _ :: _, _, h => by cases h
  | _ :: _, [], _, h => by cases h
  | p :: l, q :: l', name, h => by
    rw [List.map_cons, List.map_cons] at h
    injection h with h1 h2
    cases hb : (p.mod.name == name) with
    | true =>
      have hb' : (q.mod.name == name) = true := by rw [h1]; exact hb
      exact .inr ⟨p, q, List.find?_cons_of_pos (p := fun p : Plc => p.mod.name == name) hb, List.find?_cons_of_pos (p := fun p : Plc => p.mod.name == name) hb', h1, by simp, by simp⟩
    | false =>
      have hb1 : ¬ (p.mod.name == name) = true := by rw [hb]; decide
      have hb2 : ¬ (q.mod.name == name) = true := by rw [h1, hb]; decide
      rw [List.find?_cons_of_neg (p := fun p : Plc => p.mod.name == name) hb1, List.find?_cons_of_neg (p := fun p : Plc => p.mod.name == name) hb2]
      rcases find_mods name h2 with h | ⟨x, y, e1, e2, e3, e4, e5⟩
      · exact .inl h
      · exact .inr ⟨x, y, e1, e2, e3, List.mem_cons_of_mem _ e4, List.mem_cons_of_mem _ e5⟩
/-- Where an import is: as it was, or moved by an even number. -/
theorem addr_mods {K : Ker} {L L' : List Plc} (h : L'.map (·.mod) = L.map (·.mod)) (i : Imp) : (addrOf K L' i).2 = (addrOf K L i).2 ∧ ((addrOf K L' i).1 - (addrOf K L i).1) % 2 = 0 := by
  unfold addrOf tgtOf
  by_cases hk : (i.mod == kernelName) = true
  · rw [if_pos hk, if_pos hk]
    exact ⟨rfl, by simp⟩
  · rw [if_neg hk, if_neg hk]
    rcases find_mods i.mod h with ⟨e1, e2⟩ | ⟨p, p', e1, e2, e3, _, _⟩
    · rw [e1, e2]
      exact ⟨rfl, by simp⟩
    · rw [e1, e2]
      dsimp only [Option.map]
      rw [e3]
      split
      · exact ⟨rfl, by simp⟩
      · cases expOf p.mod.exps i.name with
        | none => exact ⟨rfl, by simp⟩
        | some x =>
          refine ⟨rfl, ?_⟩
          dsimp only
          omega
/-- Rows of numbers that are even apart. -/
def Evens (a b : List Int) : Prop := a.length = b.length ∧ ∀ (j : Nat) (x y : Int), a[j]? = some x → b[j]? = some y → (x - y) % 2 = 0
theorem Evens.snoc {a b : List Int} {x y : Int} (h : Evens a b) (hxy : (x - y) % 2 = 0) : Evens (a ++ [x]) (b ++ [y]) := by
  refine ⟨by simp [h.1], fun j u v hu hv => ?_⟩
  by_cases hj : j < a.length
  · rw [List.getElem?_append_left hj] at hu
    rw [List.getElem?_append_left (by rw [← h.1]; exact hj)] at hv
    exact h.2 j u v hu hv
  · rw [List.getElem?_append_right (by omega)] at hu
    rw [List.getElem?_append_right (by rw [← h.1]; omega)] at hv
    have hj0 : j - a.length = 0 := by
      have := (List.getElem?_eq_some_iff.1 hu).1
      simp at this
      omega
    rw [hj0] at hu
    rw [← h.1, hj0] at hv
    simp at hu hv
    rw [← hu, ← hv]
    exact hxy
theorem addrs_mods {K : Ker} {L L' : List Plc} (h : L'.map (·.mod) = L.map (·.mod)) : ∀ (is : List Imp) (a b : List Int), Evens a b → (addrsFrom K L' a is).2 = (addrsFrom K L b is).2 ∧ Evens (addrsFrom K L' a is).1 (addrsFrom K L b is).1
  | [], a, b, hab => ⟨rfl, hab⟩
  | i :: r, a, b, hab => by
    have hs : ∀ L a, addrsFrom K L a (i :: r) = if (addrOf K L i).2 ≠ 0 then ([], (addrOf K L i).2) else addrsFrom K L (a ++ [(addrOf K L i).1]) r := fun _ _ => rfl
    obtain ⟨h1, h2⟩ := addr_mods (K := K) h i
    rw [hs, hs, h1]
    by_cases h0 : (addrOf K L i).2 = 0
    · rw [if_neg (by omega), if_neg (by omega)]
      exact addrs_mods h r _ _ (hab.snoc h2)
    · rw [if_pos h0, if_pos h0]
      exact ⟨rfl, rfl, fun j x y hx _ => by simp at hx⟩
/-- Addresses lie in their bounds. -/
theorem addr_bd {K : Ker} {L : List Plc} (h : chkFind K L = 0) (i : Imp) : 0 ≤ (addrOf K L i).1 ∧ (addrOf K L i).1 ≤ 9151 := by
  have hz : (0 : Int) ≤ 0 ∧ (0 : Int) ≤ 9151 := by decide
  rcases addrOf_cases K L i with ⟨_, e⟩ | ⟨t, ht, ⟨_, e⟩ | ⟨_, _, e⟩ | ⟨_, _, ⟨_, e⟩ | ⟨x, hx, e⟩⟩⟩
  · rw [e]; exact hz
  · rw [e]; exact hz
  · rw [e]; exact hz
  · rw [e]; exact hz
  · obtain ⟨b1, b2, _, b4⟩ := tgt_bd h ht
    have := b4 x (List.mem_of_find?_eq_some hx)
    rw [e]
    exact ⟨by dsimp only; omega, by dsimp only; omega⟩
theorem addrs_bd {K : Ker} {L : List Plc} (h : chkFind K L = 0) : ∀ (is : List Imp) (a : List Int), (∀ x ∈ a, 0 ≤ x ∧ x ≤ 9151) → ∀ x ∈ (addrsFrom K L a is).1, 0 ≤ x ∧ x ≤ 9151
  | [], a, ha => ha
  | i :: r, a, ha => by
    have hs : addrsFrom K L a (i :: r) = if (addrOf K L i).2 ≠ 0 then ([], (addrOf K L i).2) else addrsFrom K L (a ++ [(addrOf K L i).1]) r := rfl
    rw [hs]
    by_cases h0 : (addrOf K L i).2 = 0
    · rw [if_neg (by omega)]
      refine addrs_bd h r _ fun x hx => ?_
      rcases List.mem_append.1 hx with hx | hx
      · exact ha x hx
      · rw [List.mem_singleton.1 hx]
        exact addr_bd h i
    · rw [if_pos h0]
      intro x hx
      simp at hx

/-- A patch that could be put can be put where all is even apart. -/
theorem app_even {n : Int} {p : Pat} {sy sy' bg bg' : Int} (h : appErr n p sy bg = 0) (h1 : (sy' - sy) % 2 = 0) (h2 : (bg' - bg) % 2 = 0) (b1 : 0 ≤ sy' ∧ sy' ≤ 9151) (b2 : 0 ≤ bg' ∧ bg' ≤ 9151) (hn : n ≤ 256) : appErr n p sy' bg' = 0 := by
  have hw := width_nonneg p.kind
  unfold appErr at h ⊢
  split at h
  · omega
  · rename_i hw0
    rw [if_neg hw0]
    split at h
    · omega
    · rename_i hb
      simp only [Bool.not_eq_false, Bool.and_eq_true, betw_iff] at hb
      obtain ⟨⟨q1, q2⟩, q3⟩ := hb
      have hb' : (betw p.add 0 65535 && betw p.pos 0 (n - width p.kind) && betw bg' 0 65279) = true := by
        simp only [Bool.and_eq_true, betw_iff]
        exact ⟨⟨q1, q2⟩, by omega, by omega⟩
      rw [hb', if_neg (by decide)]
      unfold valErr at h ⊢
      rw [if_neg hw0] at h ⊢
      have hv : valRange sy' p.add (bg' + p.pos) = true := by
        unfold valRange
        simp only [Bool.and_eq_true, betw_iff]
        omega
      rw [hv, if_neg (by decide)]
      split at h
      · omega
      · split at h
        · omega
        · rename_i hk
          rw [if_neg ?_]
          rintro ⟨k1, k2⟩
          exact hk ⟨k1, by omega⟩
theorem patd_even {ads ads' : List Int} {bg bg' : Int} (ha : Evens ads' ads) (hb : (bg' - bg) % 2 = 0) (ba : ∀ x ∈ ads', 0 ≤ x ∧ x ≤ 9151) (bb : 0 ≤ bg' ∧ bg' ≤ 9151) : ∀ (ps : List Pat) (s s' : ByteArray), s'.size = s.size → s.size ≤ 256 → (∀ p ∈ ps, p.sym < ads.length) → (patd ads bg s ps).2 = 0 → (patd ads' bg' s' ps).2 = 0
  | [], _, _, _, _, _, _ => rfl
  | p :: r, s, s', hs, hn, hp, h => by
    unfold patd at h ⊢
    by_cases h0 : appErr s.size p (symOf ads bg p) bg = 0
    · rw [if_neg (by omega)] at h
      have hsy : ((symOf ads' bg' p) - (symOf ads bg p)) % 2 = 0 ∧ 0 ≤ symOf ads' bg' p ∧ symOf ads' bg' p ≤ 9151 := by
        unfold symOf
        by_cases hsym : 0 ≤ p.sym
        · rw [if_pos hsym, if_pos hsym]
          have hl := hp p (by simp)
          have hj : p.sym.toNat < ads.length := by omega
          have hj' : p.sym.toNat < ads'.length := by rw [ha.1]; exact hj
          rw [List.getElem?_eq_getElem hj, List.getElem?_eq_getElem hj']
          dsimp only [Option.getD]
          have := ba ads'[p.sym.toNat] (List.getElem_mem hj')
          exact ⟨ha.2 _ _ _ (List.getElem?_eq_getElem hj') (List.getElem?_eq_getElem hj), this.1, this.2⟩
        · rw [if_neg hsym, if_neg hsym]
          exact ⟨hb, bb.1, bb.2⟩
      have h0' : appErr s'.size p (symOf ads' bg' p) bg' = 0 := by
        rw [hs]
        exact app_even h0 hsy.1 hb ⟨hsy.2.1, hsy.2.2⟩ bb (by omega)
      rw [if_neg (by omega)]
      refine patd_even ha hb ba bb r _ _ ?_ ?_ (fun q hq => hp q (List.mem_cons_of_mem _ hq)) h
      · rw [appStr_size h0', appStr_size h0, hs]
      · rw [appStr_size h0]; exact hn
    · rw [if_pos h0] at h
      exact absurd h h0

theorem area_all {K : Ker} {L : List Plc} : ∀ (l : List Plc) (s : ByteArray), (∀ p ∈ l, (imgRes K L p).2 = 0) → (areaFrom K L s l).2 = 0
  | [], _, _ => rfl
  | p :: r, s, h => by
    have hst : areaFrom K L s (p :: r) = if (imgRes K L p).2 ≠ 0 then (⟨#[]⟩, (imgRes K L p).2) else areaFrom K L (fillTo s (64 * p.first.toNat) ++ (imgRes K L p).1) r := rfl
    rw [hst, if_neg (by have := h p (by simp); omega)]
    exact area_all r _ fun q hq => h q (List.mem_cons_of_mem _ hq)
/-- Modules that are right, moved by whole sectors, are right, if they still lie behind one another. -/
theorem moved_right {K : Ker} {L L' : List Plc} (h : chkRg K L = 0) (hm : L'.map (·.mod) = L.map (·.mod)) (hok : okPl 0 L') : chkRg K L' = 0 := by
  obtain ⟨h1, h2, h3⟩ := chkRg_zero h
  obtain ⟨hk, hr, ht⟩ := chkLink_zero h1
  obtain ⟨r1, r2, r3⟩ := chkReg_zero.1 hr
  have hl : L'.length = L.length := by have := congrArg List.length hm; simpa using this
  have hat : ∀ p' ∈ L', ∃ p ∈ L, p'.mod = p.mod := fun p' hp' => by
    have : p'.mod ∈ L'.map (·.mod) := List.mem_map.2 ⟨p', hp', rfl⟩
    rw [hm] at this
    obtain ⟨p, hp, e⟩ := List.mem_map.1 this
    exact ⟨p, hp, e.symm⟩
  have hr' : chkReg L' = 0 := chkReg_zero.2 ⟨by rw [hl]; exact r1, fun p' hp' => by obtain ⟨p, hp, e⟩ := hat p' hp'; rw [e]; exact r2 p hp, hok⟩
  have ht' : twiceFrom [] L' = false := by rw [twice_mods L L' [] hm]; exact ht
  have h1' : chkLink K L' = 0 := by
    unfold chkLink
    rw [if_neg (by omega), if_neg (by omega), ht']
    rfl
  have h2' : (ordOf L').2 = 0 := by rw [ord_mods L L' hm]; exact h2
  obtain ⟨_, _, h4⟩ := areaOf_zero h3
  obtain ⟨_, _, g3, _⟩ := area_byte (K := K) (L := L) L ⟨#[]⟩ 0 r3 (Nat.le_refl _) h4
  have hf := link_find h1
  have hf' := link_find h1'
  have h3' : (areaOf K L').2 = 0 := by
    unfold areaOf
    rw [if_neg (by omega)]
    refine area_all L' _ fun p' hp' => ?_
    obtain ⟨p, hp, e⟩ := hat p' hp'
    have hc := r2 p hp
    rcases imgRes_cases K L p with ⟨n1, e1⟩ | ⟨_, n2, e1⟩ | ⟨n1, n2, _⟩
    · have := (g3 p hp).1; rw [e1] at this; exact absurd this n1
    · have := (g3 p hp).1; rw [e1] at this; exact absurd this n2
    · have hal := allRes_length n1
      have ea : allRes K L p.mod = addrsFrom K L [] p.mod.imps := by
        rcases allRes_cases K L p.mod with ⟨q, _⟩ | ⟨_, q, _⟩ | ⟨_, _, q⟩
        · exact absurd hf q
        · exact absurd hc q
        · exact q
      have ea' : allRes K L' p'.mod = addrsFrom K L' [] p.mod.imps := by
        rcases allRes_cases K L' p'.mod with ⟨q, _⟩ | ⟨_, q, _⟩ | ⟨_, _, q⟩
        · exact absurd hf' q
        · rw [e] at q; exact absurd hc q
        · rw [q, e]
      obtain ⟨q1, q2⟩ := addrs_mods (K := K) hm p.mod.imps [] [] ⟨rfl, fun j x y hx _ => by simp at hx⟩
      have qb := addrs_bd hf' p.mod.imps [] (fun x hx => by simp at hx)
      have f1 := okPl_first hok p' hp'
      have hz := szM_bd hc
      rw [ea] at n1 n2 hal
      rw [← ea'] at q1 q2 qb
      have n1' : (allRes K L' p'.mod).2 = 0 := by rw [q1]; exact n1
      have hsy : ∀ q ∈ p.mod.pats, q.sym < (addrsFrom K L [] p.mod.imps).1.length := fun q hq => by
        have := (pats_of hc q hq).2
        rw [hal]
        omega
      have n2' := patd_even (bg := 4096 + p.first * 64) (bg' := 4096 + p'.first * 64) q2 (by omega) qb (by omega) p.mod.pats p.mod.text p'.mod.text (by rw [e]) (by omega) hsy n2
      unfold imgRes
      rw [if_neg (by omega)]
      have n2'' : (patd (allRes K L' p'.mod).1 (4096 + p'.first * 64) p'.mod.text p'.mod.pats).2 = 0 := by
        have : p'.mod.pats = p.mod.pats := by rw [e]
        rw [this]
        exact n2'
      rw [if_neg (by omega)]
  unfold chkRg
  rw [if_neg (by omega), if_neg (by omega)]
  exact h3'
/-- Behind a step all is right. -/
theorem step_right {K : Ker} {L L' : List Plc} (h : chkRg K L = 0) (hs : stepFrom 0 L = some L') : chkRg K L' = 0 :=
  moved_right h (step_some hs).2.2 (step_ok (chkReg_zero.1 (chkLink_zero (chkRg_zero h).1).2.1).2.2 hs)

end Go.Proofs.YthmohjgdcjafkaeGreat

/- The contracts of package compact's packed, and of what it is handed. -/
namespace Go.Proofs.YthmohjgdcjafkaeGreat
open Go.RowKit Go.PlainAid Go.Lib

set_option maxRecDepth 100000

theorem results_ctt_row {P : Program} {fn : Func} {p u x : Tmp} {ty : TypeId} (h : fn.results = #[.cell p ty, .tmp u, .tmp x]) (tmps : Array Value) (w : World) (g : Nat) (t : TypeId) (cs : Array Value) (fr : Nat × Nat) (d : TypeDesc)
    (hp : tmps.getD p undef = .pointer (some ⟨g, 0, none⟩)) (hg : w.heap[g]? = some (.cells cs t fr))
    (hu : P.underlying ty = some d) (hd : (match d with | .struct _ | .array _ _ => true | _ => false) = true) (hi : (P.info? ty).map (·.size) = some cs.size) :
    (results fn tmps).run P w = .ok (.tuple #[.agg cs, tmps.getD u undef, tmps.getD x undef]) w := by
  have hp' : tmps[p]?.getD undef = .pointer (some ⟨g, 0, none⟩) := by simpa using hp
  simp [results, h, hp', asAddr, run_loadVar_row w g t ty cs fr d hg hu hd hi]

theorem fits_mods {l l' : List PV} (h : l'.map (·.mod) = l.map (·.mod)) (hf : ∀ x ∈ l, x.mod.fits) : ∀ x ∈ l', x.mod.fits := fun x hx => by
  have : x.mod ∈ l'.map (·.mod) := List.mem_map_of_mem hx
  rw [h] at this
  obtain ⟨y, hy, e⟩ := List.mem_map.1 this
  rw [← e]
  exact hf y hy
theorem mods_plc {l l' : List PV} (h : l'.map PV.plc = l.map PV.plc) : l'.map (·.mod) = l.map (·.mod) := by
  have := congrArg (List.map fun p : Plc => p.mod) h
  rw [List.map_map, List.map_map] at this
  exact this
theorem rg_lens {K : Ker} {l : List PV} (h : chkRg K (l.map PV.plc) = 0) : K.exps.length ≤ 255 ∧ l.length ≤ 255 ∧ (∀ x ∈ l, x.mod.exps.length ≤ 255 ∧ x.mod.imps.length ≤ 255 ∧ x.mod.pats.length ≤ 255) ∧ chkReg (l.map PV.plc) = 0 := by
  obtain ⟨h1, h2, _⟩ := chkLink_zero (chkRg_zero h).1
  have h3 := (chkKer_zero h1).1
  obtain ⟨h4, h5⟩ := reg_lens h2
  exact ⟨by omega, by omega, h5, h2⟩

/-- A registry of one's own, in a row of four cells. -/
def PackAt (base Bp : Nat) (W : World) (t : TypeId) (K : Ker) (ve vl : Value) (l : List PV) : Prop :=
  CellsAt W Bp t #[.int .i64 K.major, .int .i64 K.minor, ve, vl] ∧ W.ownsRow base 128 2 ve K.exps.length (K.exps.flatMap expC) ∧ W.ownsRow base 54 8 vl l.length (l.flatMap pvC) ∧ ∀ x ∈ l, OwnsPlc base W x

set_option maxHeartbeats 16000000 in
theorem packed_any (K : Ker) (l : List PV) (v : Value) (w : World) (hreg : IsReg w.heap.size w v K l) (hf : K.fits) (hfit : ∀ x ∈ l, x.mod.fits) (Kf : FuncId) (cap : Value) (hK : ∀ W x, Sem.run Tryz.prog (callFunc Kf #[x, cap]) W = .ok (.enter Kf #[x, cap]) W) (m : Nat) (hm : m ≤ w.heap.size) (R : List Plc → Prop) (Q1 : World → Prop) (hq1 : ∀ W W' B, w.heap.size ≤ B → W.grownBy W' (some B) → Q1 W → Q1 W')
    (hdo : chkRg K (l.map PV.plc) = 0 → ∀ (W : World) (Bp : Nat) (ve vl : Value) (l0 : List PV), Below w.heap.size w W → w.heap.size ≤ Bp → PackAt w.heap.size Bp W 135 K ve vl l0 → l0.map PV.plc = l.map PV.plc → (∀ x ∈ l0, x.mod.fits) →
      Calls Tryz.prog Kf #[.pointer (some ⟨Bp, 0, none⟩), cap] W fun e w' => e = .returned (.tuple #[]) ∧ (∃ l' : List PV, R (l'.map PV.plc) ∧ l'.map (·.mod) = l0.map (·.mod) ∧ PackAt w.heap.size Bp w' 135 K ve vl l' ∧ (∀ B c, B < W.heap.size → w.heap.size ≤ B → CellsAt W B 27 c → CellsAt w' B 27 c)) ∧ Q1 w' ∧ Below m W w') :
    Calls Tryz.prog 61 #[v, .func (.func Kf) #[] #[cap]] w fun e w' =>
      (chkRg K (l.map PV.plc) ≠ 0 ∧ e = .returned (.tuple #[.agg #[.int .i64 0, .int .i64 0, .slice none 0 0, .slice none 0 0], .int .i64 (chkRg K (l.map PV.plc))]) ∧ Below w.heap.size w w') ∨
      (chkRg K (l.map PV.plc) = 0 ∧ ∃ (v' : Value) (l' : List PV), e = .returned (.tuple #[v', .int .i64 0]) ∧ R (l'.map PV.plc) ∧ l'.map (·.mod) = l.map (·.mod) ∧ OwnsReg w.heap.size w' v' K l' ∧ Q1 w' ∧ Below m w w') := by
  have HCK : Hid (∀ W, Below w.heap.size w W → Calls Tryz.prog 19 #[v] W fun e w' => e = .returned (.int .i64 (chkRg K (l.map PV.plc))) ∧ Below W.heap.size W w') := fun W hb => regCheck_any K l v W ((hreg.below hb).more hb.size) hf hfit
  have HCP : Hid (chkRg K (l.map PV.plc) = 0 → ∀ W, Below w.heap.size w W → Calls Tryz.prog 69 #[v] W fun e w' => (∃ v' l', e = .returned v' ∧ l'.map PV.plc = l.map PV.plc ∧ OwnsReg W.heap.size w' v' K l') ∧ Below W.heap.size W w') := fun h W hb => by
    obtain ⟨h1, h2, h3, _⟩ := rg_lens h
    exact copyReg_any K l v W ((hreg.below hb).more hb.size) h1 h2 h3
  have HDO : Hid _ := hdo
  obtain ⟨ve, vl, rfl, hE, hL⟩ := hreg
  obtain ⟨qe, je, rfl, -, -⟩ := hE
  obtain ⟨⟨a, cap', rfl, -, -⟩, -⟩ := hL
  generalize hcr : chkRg K (l.map PV.plc) = cr at *
  generalize K.exps.length = lk at *
  have HB1 : Hid (Below w.heap.size w ((w.alloc (.cells #[.int .i64 K.major, .int .i64 K.minor, .slice qe lk je, .slice a l.length cap'] 27)).alloc (.cells #[.int .i64 0, .int .i64 0, .slice none 0 0, .slice none 0 0] 27))) := ((Below.refl _ _).alloc (Nat.le_refl _) _).alloc (by simp) _
  have HC1 : Hid (CellsAt ((w.alloc (.cells #[.int .i64 K.major, .int .i64 K.minor, .slice qe lk je, .slice a l.length cap'] 27)).alloc (.cells #[.int .i64 0, .int .i64 0, .slice none 0 0, .slice none 0 0] 27)) w.heap.size 27 #[.int .i64 K.major, .int .i64 K.minor, .slice qe lk je, .slice a l.length cap']) := (CellsAt.new _ _ _).kept (World.grownBy_alloc _ _ none) (by simp)
  have HZ1 : Hid (CellsAt ((w.alloc (.cells #[.int .i64 K.major, .int .i64 K.minor, .slice qe lk je, .slice a l.length cap'] 27)).alloc (.cells #[.int .i64 0, .int .i64 0, .slice none 0 0, .slice none 0 0] 27)) (w.heap.size + 1) 27 #[.int .i64 0, .int .i64 0, .slice none 0 0, .slice none 0 0]) := by
    have := CellsAt.new (w.alloc (.cells #[.int .i64 K.major, .int .i64 K.minor, .slice qe lk je, .slice a l.length cap'] 27)) 27 #[.int .i64 0, .int .i64 0, .slice none 0 0, .slice none 0 0]
    rw [World.size_alloc] at this
    exact this
  go_enter Tryz.func61, Tryz.ntmps61
  go_wp2_with fail
  refine (HCK.out _ HB1.out).mono ?_
  generalize ((w.alloc (.cells #[.int .i64 K.major, .int .i64 K.minor, .slice qe lk je, .slice a l.length cap'] 27)).alloc (.cells #[.int .i64 0, .int .i64 0, .slice none 0 0, .slice none 0 0] 27)) = w1 at *
  rintro e w2 ⟨rfl, b2⟩
  have HB2 : Hid (Below w.heap.size w w2) := HB1.out.trans (b2.mono HB1.out.size)
  have HC2 : Hid (CellsAt w2 w.heap.size 27 #[.int .i64 K.major, .int .i64 K.minor, .slice qe lk je, .slice a l.length cap']) := HC1.out.below b2 HC1.out.lt
  have HZ2 : Hid (CellsAt w2 (w.heap.size + 1) 27 #[.int .i64 0, .int .i64 0, .slice none 0 0, .slice none 0 0]) := HZ1.out.below b2 HZ1.out.lt
  clear b2 HB1 HC1 HZ1 HCK
  by_cases hcr0 : cr ≠ 0
  · have h' : (cr != 0) = true := by simpa using hcr0
    have HN : Hid (cr ≠ 0) := hcr0
    have z0 := CellsAt.cell HZ2.out 0
    have z1 := CellsAt.cell HZ2.out 1
    have z2 := CellsAt.cell HZ2.out 2
    have z3 := CellsAt.cell HZ2.out 3
    have f0 := CellsAt.frozen HZ2.out 0
    have f1 := CellsAt.frozen HZ2.out 1
    have f2 := CellsAt.frozen HZ2.out 2
    have f3 := CellsAt.frozen HZ2.out 3
    have lz := CellsAt.lt HZ2.out
    simp at z0 z1 z2 z3
    clear hcr0 HCP HDO HC2 hdo hcr hfit hf
    go_wp2
    have hZ9 := sets4 HZ2.out (.int .i64 0) (.int .i64 0) (.slice none 0 0) (.slice none 0 0)
    have hG9 := sets4_grown w2 (w.heap.size + 1) (.int .i64 0) (.int .i64 0) (.slice none 0 0) (.slice none 0 0)
    refine bodyPost_ret (results_cell_tmp_row rfl _ _ _ _ _ _ _ rfl hZ9 Tryz.underlying27 rfl (by kernel_rfl)) rfl ?_
    exact .inl ⟨HN.out, rfl, HB2.out.grown hG9 HB2.out.size (fun q hq => by obtain rfl := Option.some.inj hq; exact Nat.le_succ _)⟩
  · obtain rfl : cr = 0 := Decidable.not_not.1 hcr0
    have HCC : Hid _ := HCP.out (by first | rfl | trivial)
    have HDD : Hid _ := HDO.out (by first | rfl | trivial)
    have c0 := CellsAt.cell HC2.out 0
    have c1 := CellsAt.cell HC2.out 1
    have c2 := CellsAt.cell HC2.out 2
    have c3 := CellsAt.cell HC2.out 3
    have lc := CellsAt.lt HC2.out
    simp at c0 c1 c2 c3
    clear HCP HDO hdo hcr0
    go_wp2_with fail
    refine (HCC.out _ HB2.out).mono ?_
    rintro e w3 ⟨⟨v3, l0, rfl, hpl, ho⟩, b3⟩
    obtain ⟨ve3, vl3, rfl, oe3, ol3, op3⟩ := ho
    obtain ⟨ea, ec, rfl⟩ := own_form oe3
    obtain ⟨pa, pc, rfl⟩ := own_form ol3
    have LB : w.heap.size ≤ w2.heap.size := HB2.out.size
    have LZ : w.heap.size + 1 < w3.heap.size := Nat.lt_of_lt_of_le HZ2.out.lt b3.size
    have hB4 : Below w.heap.size w (w3.alloc (.cells #[.int .i64 K.major, .int .i64 K.minor, .slice ea K.exps.length ec, .slice pa l0.length pc] 135)) := by
      have := HB2.out.trans (b3.mono HB2.out.size)
      exact this.alloc this.size _
    have HB4 : Hid (Below w.heap.size w (w3.alloc (.cells #[.int .i64 K.major, .int .i64 K.minor, .slice ea K.exps.length ec, .slice pa l0.length pc] 135))) := hB4
    have HZ4 : Hid (CellsAt (w3.alloc (.cells #[.int .i64 K.major, .int .i64 K.minor, .slice ea K.exps.length ec, .slice pa l0.length pc] 135)) (w.heap.size + 1) 27 #[.int .i64 0, .int .i64 0, .slice none 0 0, .slice none 0 0]) := (HZ2.out.below b3 HZ2.out.lt).kept (World.grownBy_alloc _ _ none) (by simp)
    have HP4 : Hid (PackAt w.heap.size w3.heap.size (w3.alloc (.cells #[.int .i64 K.major, .int .i64 K.minor, .slice ea K.exps.length ec, .slice pa l0.length pc] 135)) 135 K (.slice ea K.exps.length ec) (.slice pa l0.length pc) l0) := ⟨CellsAt.new _ _ _, (own_down oe3 LB).alloc _, (own_down ol3 LB).alloc _, fun x hx => ((op3 x hx).lower LB).below ((Below.refl _ _).alloc (Nat.le_refl _) _)⟩
    have HPL : Hid (l0.map PV.plc = l.map PV.plc) := hpl
    have HFT : Hid (∀ x ∈ l0, x.mod.fits) := fits_mods (mods_plc hpl) hfit
    clear b3 HB2 HZ2 HC2 HCC oe3 ol3 op3 hpl c0 c1 c2 c3 lc hB4 hfit
    generalize hkl : K.exps.length = ke at *
    have LW3 : w.heap.size ≤ w3.heap.size := by omega
    go_wp2_with fail
    generalize (w3.alloc (.cells #[.int .i64 K.major, .int .i64 K.minor, .slice ea ke ec, .slice pa l0.length pc] 135)) = w4 at *
    generalize w3.heap.size = Bp at *
    refine (HDD.out w4 Bp _ _ l0 HB4.out LW3 HP4.out HPL.out HFT.out).mono ?_
    rintro e w5 ⟨rfl, ⟨l', hR, hmm, hp5, hkeep⟩, hQ, hb5⟩
    have hz5 := hkeep _ _ HZ4.out.lt (Nat.le_succ _) HZ4.out
    have HZ5 : Hid (CellsAt w5 (w.heap.size + 1) 27 #[.int .i64 0, .int .i64 0, .slice none 0 0, .slice none 0 0]) := hz5
    have HB5 : Hid (Below m w w5) := (HB4.out.mono hm).trans (hb5.mono (Nat.le_refl _))
    have HR5 : Hid (R (l'.map PV.plc)) := hR
    have HM5 : Hid (l'.map (·.mod) = l.map (·.mod)) := hmm.trans (mods_plc HPL.out)
    have HQ5 : Hid (Q1 w5) := hQ
    unfold PackAt at hp5
    rw [hkl] at hp5
    have HP5 : Hid _ := hp5
    have ll : l'.length = l0.length := by have := congrArg List.length hmm; simpa using this
    have p0 := CellsAt.cell hp5.1 0
    have p1 := CellsAt.cell hp5.1 1
    have p2 := CellsAt.cell hp5.1 2
    have p3 := CellsAt.cell hp5.1 3
    have lp := CellsAt.lt hp5.1
    have z0 := CellsAt.cell hz5 0
    have z1 := CellsAt.cell hz5 1
    have z2 := CellsAt.cell hz5 2
    have z3 := CellsAt.cell hz5 3
    have f0 := CellsAt.frozen hz5 0
    have f1 := CellsAt.frozen hz5 1
    have f2 := CellsAt.frozen hz5 2
    have f3 := CellsAt.frozen hz5 3
    have lz := CellsAt.lt hz5
    simp at p0 p1 p2 p3 z0 z1 z2 z3
    clear HDD HB4 HZ4 HP4 hkeep hz5 hb5 hR hmm hQ hp5 hcr
    go_wp2
    have hZ9 := sets4 HZ5.out (.int .i64 K.major) (.int .i64 K.minor) (.slice ea ke ec) (.slice pa l0.length pc)
    have hG9 := sets4_grown w5 (w.heap.size + 1) (.int .i64 K.major) (.int .i64 K.minor) (.slice ea ke ec) (.slice pa l0.length pc)
    refine bodyPost_ret (results_cell_tmp_row rfl _ _ _ _ _ _ _ rfl hZ9 Tryz.underlying27 rfl (by kernel_rfl)) rfl ?_
    refine ⟨_, rfl, l', HR5.out, HM5.out, ⟨_, _, rfl, ?_, ?_, fun x hx => (HP5.out.2.2.2 x hx).beCell HZ5.out (by decide) (by decide) (by decide) hG9⟩, hq1 _ _ _ (Nat.le_succ _) hG9 HQ5.out, HB5.out.grown hG9 (Nat.le_trans hm (by have := HZ5.out.lt; omega)) (fun q hq => by obtain rfl := Option.some.inj hq; omega)⟩
    · rw [hkl]
      exact HP5.out.2.1.kept hG9 (.inr (own_ne_cells HP5.out.2.1 HZ5.out (by decide)))
    · exact HP5.out.2.2.1.kept hG9 (.inr (own_ne_cells HP5.out.2.2.1 HZ5.out (by decide)))

end Go.Proofs.YthmohjgdcjafkaeGreat

/- The contracts of what package compact hands to packed. -/
namespace Go.Proofs.YthmohjgdcjafkaeGreat
open Go.RowKit Go.PlainAid Go.Lib

set_option maxRecDepth 100000

/-- A step: what comes, and whether there is one. -/
def stepRes (L : List Plc) : List Plc × Bool := match stepFrom 0 L with | none => (L, false) | some L' => (L', true)

theorem PackAt.below {base Bp : Nat} {W W' : World} {t : TypeId} {K : Ker} {ve vl : Value} {l : List PV} (h : PackAt base Bp W t K ve vl l) (hb : Below W.heap.size W W') : PackAt base Bp W' t K ve vl l :=
  ⟨h.1.below hb h.1.lt, own_below h.2.1 hb, own_below h.2.2.1 hb, fun x hx => (h.2.2.2 x hx).below hb⟩
theorem PackAt.beCell {base Bp B : Nat} {W W' : World} {t s : TypeId} {K : Ker} {ve vl : Value} {l : List PV} {cs : Array Value} (h : PackAt base Bp W t K ve vl l) (hc : CellsAt W B s cs) (hne : Bp ≠ B) (h1 : 128 ≠ s) (h2 : 100 ≠ s) (h3 : 102 ≠ s) (h4 : 54 ≠ s) (hg : W.grownBy W' (some B)) : PackAt base Bp W' t K ve vl l :=
  ⟨h.1.kept hg (by intro e; exact hne (Option.some.inj e)), h.2.1.kept hg (.inr (own_ne_cells h.2.1 hc h1)), h.2.2.1.kept hg (.inr (own_ne_cells h.2.2.1 hc h4)), fun x hx => (h.2.2.2 x hx).beCell hc h1 h2 h3 hg⟩

/-- A step, of a registry of one's own. -/
theorem cpStep_pack (K : Ker) (l : List PV) (ve vl : Value) (base Bp : Nat) (w : World) (hp : PackAt base Bp w 135 K ve vl l) (hfit : ∀ x ∈ l, x.mod.fits) (h0 : chkReg (l.map PV.plc) = 0) :
    Calls Tryz.prog 63 #[.pointer (some ⟨Bp, 0, none⟩)] w fun e w' => ∃ l' : List PV, e = .returned (.bool (stepRes (l.map PV.plc)).2) ∧ l'.map PV.plc = (stepRes (l.map PV.plc)).1 ∧ l'.map (·.mod) = l.map (·.mod) ∧ PackAt base Bp w' 135 K ve vl l' ∧ Moved w vl w' := by
  refine (cpStep_any K l ve vl base Bp w hp.1 hp.2.2.1 hp.2.2.2 hfit h0).mono ?_
  rintro e w' (⟨hs, rfl, hb⟩ | ⟨l', hs, hm, rfl, hc, hL, hP, hmv⟩)
  · refine ⟨l, by unfold stepRes; rw [hs], by unfold stepRes; rw [hs], rfl, hp.below hb, w', hb, ?_⟩
    exact ⟨rfl, rfl, rfl, Nat.le_refl _, fun k _ _ => rfl⟩
  · refine ⟨l', by unfold stepRes; rw [hs], by unfold stepRes; rw [hs], hm, ?_, hmv⟩
    obtain ⟨w1, hb, hg⟩ := hmv
    exact ⟨hc, own_beside (own_below hp.2.1 hb) (own_below hp.2.2.1 hb) (by decide) hg, hL, hP⟩
theorem Moved.cells {w w' : World} {vl : Value} {n base : Nat} {xs : List Value} (h : Moved w vl w') (hL : w.ownsRow base 54 8 vl n xs) {B : Nat} {t : TypeId} {cs : Array Value} (hc : CellsAt w B t cs) (ht : 54 ≠ t) : CellsAt w' B t cs := by
  obtain ⟨w1, hb, hg⟩ := h
  exact cells_beside (hc.below hb hc.lt) (own_below hL hb) ht hg
theorem Moved.under {w w' : World} {vl : Value} {n base m : Nat} {xs : List Value} (h : Moved w vl w') (hL : w.ownsRow base 54 8 vl n xs) (hm : m ≤ base) (hw : m ≤ w.heap.size) : Below m w w' := by
  obtain ⟨w1, hb, hg⟩ := h
  exact (hb.mono hw).grown hg (Nat.le_trans hw hb.size) (fun q hq => Nat.le_trans hm (own_block hL q hq))

set_option maxHeartbeats 8000000 in
theorem cpStepF_any (K : Ker) (l : List PV) (ve vl : Value) (base Bp Bc m : Nat) (b0 : Bool) (w : World) (hp : PackAt base Bp w 135 K ve vl l) (hfit : ∀ x ∈ l, x.mod.fits) (h0 : chkReg (l.map PV.plc) = 0) (hc : CellsAt w Bc 4 #[.bool b0]) (hcb : Bc < base) (hbp : base ≤ Bp) (hm : m ≤ Bc) :
    Calls Tryz.prog 64 #[.pointer (some ⟨Bp, 0, none⟩), .pointer (some ⟨Bc, 0, none⟩)] w fun e w' => e = .returned (.tuple #[]) ∧ (∃ l' : List PV, l'.map PV.plc = (stepRes (l.map PV.plc)).1 ∧ l'.map (·.mod) = l.map (·.mod) ∧ PackAt base Bp w' 135 K ve vl l' ∧ (∀ B c, B < w.heap.size → base ≤ B → CellsAt w B 27 c → CellsAt w' B 27 c)) ∧ CellsAt w' Bc 4 #[.bool (stepRes (l.map PV.plc)).2] ∧ Below m w w' := by
  have HS : Hid (Calls Tryz.prog 63 #[.pointer (some ⟨Bp, 0, none⟩)] w fun e w' => ∃ l' : List PV, e = .returned (.bool (stepRes (l.map PV.plc)).2) ∧ l'.map PV.plc = (stepRes (l.map PV.plc)).1 ∧ l'.map (·.mod) = l.map (·.mod) ∧ PackAt base Bp w' 135 K ve vl l' ∧ Moved w vl w') := cpStep_pack K l ve vl base Bp w hp hfit h0
  have HP : Hid (PackAt base Bp w 135 K ve vl l) := hp
  have HC : Hid (CellsAt w Bc 4 #[.bool b0]) := hc
  clear hp hc hfit h0
  generalize stepRes (l.map PV.plc) = SR at *
  obtain ⟨SL, sb⟩ := SR
  dsimp only at *
  go_enter Tryz.func64, Tryz.ntmps64
  go_wp2_with fail
  refine HS.out.mono ?_
  rintro e w2 ⟨l', rfl, hpl, hmm, hp2, hmv⟩
  have HC2 : Hid (CellsAt w2 Bc 4 #[.bool b0]) := hmv.cells HP.out.2.2.1 HC.out (by decide)
  have HM2 : Hid (Moved w vl w2) := hmv
  have HP2 : Hid (PackAt base Bp w2 135 K ve vl l') := hp2
  have c0 := CellsAt.cell HC2.out 0
  have cf := CellsAt.frozen HC2.out 0
  have cl := CellsAt.lt HC2.out
  have cl1 := CellsAt.lt HC.out
  simp at c0
  clear HS hmv hp2
  go_wp2
  have hg := grown_set w2 Bc 0 (.bool sb)
  have hcs := CellsAt.set 0 (.bool sb) HC2.out
  simp only [List.setIfInBounds_toArray, List.set_cons_zero] at hcs
  go_end0
  refine ⟨rfl, ⟨l', hpl, hmm, HP2.out.beCell HC2.out (by omega) (by decide) (by decide) (by decide) (by decide) hg, fun B c h1 h2 h3 => (HM2.out.cells HP.out.2.2.1 h3 (by decide)).kept hg (by intro e; have := Option.some.inj e; omega)⟩, hcs, ?_⟩
  exact (HM2.out.under HP.out.2.2.1 (by omega) (by omega)).setCell (by simp; omega) _

theorem off_len : ∀ (L : List Plc) (e : Int), offFrom e L ≤ L.length
  | [], _ => Nat.le_refl _
  | p :: r, e => by
    have := off_len r (e + szM p.mod)
    show (if p.first = e then 0 else 1) + offFrom _ r ≤ r.length + 1
    split <;> omega

set_option maxHeartbeats 8000000 in
theorem cpPackF_any (K : Ker) (l : List PV) (ve vl : Value) (base Bp Bc m : Nat) (w : World) (hp : PackAt base Bp w 135 K ve vl l) (hfit : ∀ x ∈ l, x.mod.fits) (h0 : chkRg K (l.map PV.plc) = 0) (hc : CellsAt w Bc 3 #[.int .i64 0]) (hcb : Bc < base) (hbp : base ≤ Bp) (hm : m ≤ Bc) :
    Calls Tryz.prog 62 #[.pointer (some ⟨Bp, 0, none⟩), .pointer (some ⟨Bc, 0, none⟩)] w fun e w' => e = .returned (.tuple #[]) ∧ (∃ l' : List PV, l'.map PV.plc = packFrom 0 (l.map PV.plc) ∧ l'.map (·.mod) = l.map (·.mod) ∧ PackAt base Bp w' 135 K ve vl l' ∧ (∀ B c, B < w.heap.size → base ≤ B → CellsAt w B 27 c → CellsAt w' B 27 c)) ∧ CellsAt w' Bc 3 #[.int .i64 (offFrom 0 (l.map PV.plc) : Int)] ∧ Below m w w' := by
  have HST : Hid (∀ (l1 : List PV) W, PackAt base Bp W 135 K ve vl l1 → (∀ x ∈ l1, x.mod.fits) → chkReg (l1.map PV.plc) = 0 → Calls Tryz.prog 63 #[.pointer (some ⟨Bp, 0, none⟩)] W fun e w' => ∃ l' : List PV, e = .returned (.bool (stepRes (l1.map PV.plc)).2) ∧ l'.map PV.plc = (stepRes (l1.map PV.plc)).1 ∧ l'.map (·.mod) = l1.map (·.mod) ∧ PackAt base Bp w' 135 K ve vl l' ∧ Moved W vl w') := fun l1 W h1 h2 h3 => cpStep_pack K l1 ve vl base Bp W h1 h2 h3
  have HSN : Hid (∀ L L' : List Plc, chkRg K L = 0 → stepFrom 0 L = some L' → chkRg K L' = 0) := fun L L' h1 h2 => step_right h1 h2
  have hlen : l.length ≤ 255 := (rg_lens h0).2.1
  have hol := off_len (l.map PV.plc) 0
  rw [List.length_map] at hol
  have HFIT : Hid (∀ x ∈ l, x.mod.fits) := hfit
  have HLEN : Hid (∀ l1 : List PV, chkRg K (l1.map PV.plc) = 0 → chkReg (l1.map PV.plc) = 0) := fun l1 h => (rg_lens h).2.2.2
  have HP : Hid (PackAt base Bp w 135 K ve vl l) := hp
  have HC : Hid (CellsAt w Bc 3 #[.int .i64 ((0 : Nat) : Int)]) := hc
  have H0 : Hid (chkRg K (l.map PV.plc) = 0) := h0
  have hbc : Bc < w.heap.size := hc.lt
  have HOF : Hid (offFrom 0 (l.map PV.plc) ≤ 255) := by show _ ≤ _; omega
  clear hp hc hfit h0 hol
  go_enter Tryz.func62, Tryz.ntmps62
  go_wp2_with fail
  go_loopg [] (offFrom 0 (l.map PV.plc)) (fun gk wr => ∃ (l1 : List PV) (many : Nat), Hid (gk = offFrom 0 (l1.map PV.plc)) ∧ Hid (gk + many = offFrom 0 (l.map PV.plc)) ∧ Hid (packFrom 0 (l1.map PV.plc) = packFrom 0 (l.map PV.plc)) ∧ Hid (l1.map (·.mod) = l.map (·.mod)) ∧ Hid (chkRg K (l1.map PV.plc) = 0) ∧ Hid (PackAt base Bp wr 135 K ve vl l1) ∧ Hid (CellsAt wr Bc 3 #[.int .i64 (many : Int)]) ∧ Hid (∀ B c, B < w.heap.size → base ≤ B → CellsAt w B 27 c → CellsAt wr B 27 c) ∧ Hid (Below m w wr))
  case atStart => exact ⟨l, 0, (rfl : _ = _), (rfl : _ = _), (rfl : _ = _), (rfl : _ = _), H0, HP, HC, fun B c _ _ h => h, Below.refl _ _⟩
  case round =>
    obtain ⟨l1, many, HGK, HGM, HPK, HMM, HR1, HP1, HC1, HKP, HB1⟩ := hrel
    clear HP HC H0
    go_wp2_with fail
    refine (HST.out l1 wr HP1.out (fits_mods HMM.out HFIT.out) (HLEN.out l1 HR1.out)).mono ?_
    rintro e w2 ⟨l', rfl, hpl, hmm, hp2, hmv⟩
    have HC2 : Hid (CellsAt w2 Bc 3 #[.int .i64 (many : Int)]) := hmv.cells HP1.out.2.2.1 HC1.out (by decide)
    have HK2 : Hid (∀ B c, B < w.heap.size → base ≤ B → CellsAt w B 27 c → CellsAt w2 B 27 c) := fun B c h1 h2 h3 => hmv.cells HP1.out.2.2.1 (HKP.out B c h1 h2 h3) (by decide)
    have hu := hmv.under (m := m) HP1.out.2.2.1 (by omega) (by have := HC1.out.lt; omega)
    have HB2 : Hid (Below m w w2) := HB1.out.trans hu
    have HP2 : Hid (PackAt base Bp w2 135 K ve vl l') := hp2
    have HM2 : Hid (l'.map (·.mod) = l.map (·.mod)) := hmm.trans HMM.out
    clear hmv hp2 hmm HC1 HKP HB1 hu
    cases hs : stepFrom 0 (l1.map PV.plc) with
    | none =>
      have hr : stepRes (l1.map PV.plc) = (l1.map PV.plc, false) := by unfold stepRes; rw [hs]
      obtain ⟨n1, n2⟩ := step_none hs
      rw [hr] at hpl ⊢
      have HPL : Hid (l'.map PV.plc = packFrom 0 (l.map PV.plc)) := hpl.trans (n1.symm.trans HPK.out)
      have HMN : Hid (many = offFrom 0 (l.map PV.plc)) := by
        have h1 := HGK.out
        have h2 := HGM.out
        show many = _
        omega
      clear hs hr n1 n2 hpl HGK HGM HPK HST HSN HLEN HFIT
      go_wp2
      go_end0
      refine ⟨rfl, ⟨l', HPL.out, HM2.out, HP2.out, HK2.out⟩, ?_, HB2.out⟩
      rw [← HMN.out]
      exact HC2.out
    | some L' =>
      have hr : stepRes (l1.map PV.plc) = (L', true) := by unfold stepRes; rw [hs]
      obtain ⟨n1, n2, _⟩ := step_some hs
      rw [hr] at hpl ⊢
      dsimp only at hpl
      have HR2 : Hid (chkRg K (l'.map PV.plc) = 0) := by
        show chkRg _ _ = 0
        rw [hpl]
        exact HSN.out _ _ HR1.out hs
      have HPL : Hid (packFrom 0 (l'.map PV.plc) = packFrom 0 (l.map PV.plc)) := by
        show packFrom _ _ = _
        rw [hpl, n1]
        exact HPK.out
      have HO2 : Hid (offFrom 0 (l1.map PV.plc) = offFrom 0 (l'.map PV.plc) + 1) := by
        show _ = _
        rw [hpl]
        exact n2
      have hmb : many ≤ 255 := by
        have h2 := HGM.out
        have h3 := HOF.out
        omega
      have ew : wrap64 ((many : Int) + 1) = (many : Int) + 1 := by unfold wrap64; omega
      have EW2 : Hid ((many : Int) + 1 = ((many + 1 : Nat) : Int)) := by show _ = _; omega
      have c0 := CellsAt.cell HC2.out 0
      have cf := CellsAt.frozen HC2.out 0
      have cl := CellsAt.lt HC2.out
      simp at c0
      clear hs hr n1 n2 hpl
      go_wp2_with fail
      have hg := grown_set w2 Bc 0 (.int .i64 ((many : Int) + 1))
      have hcs := CellsAt.set 0 (.int .i64 ((many : Int) + 1)) HC2.out
      simp only [List.setIfInBounds_toArray, List.set_cons_zero] at hcs
      have HC9 : Hid (CellsAt (w2.setCell ⟨Bc, 0, none⟩ (.int .i64 ((many : Int) + 1))) Bc 3 #[.int .i64 ((many + 1 : Nat) : Int)]) := by
        rw [← EW2.out]
        exact hcs
      have HP9 : Hid (PackAt base Bp (w2.setCell ⟨Bc, 0, none⟩ (.int .i64 ((many : Int) + 1))) 135 K ve vl l') := HP2.out.beCell HC2.out (by omega) (by decide) (by decide) (by decide) (by decide) hg
      have HK9 : Hid (∀ B c, B < w.heap.size → base ≤ B → CellsAt w B 27 c → CellsAt (w2.setCell ⟨Bc, 0, none⟩ (.int .i64 ((many : Int) + 1))) B 27 c) := fun B c h1 h2 h3 => (HK2.out B c h1 h2 h3).kept hg (by intro e; have := Option.some.inj e; omega)
      have HB9 : Hid (Below m w (w2.setCell ⟨Bc, 0, none⟩ (.int .i64 ((many : Int) + 1)))) := HB2.out.setCell (by simp; omega) _
      clear hcs hg c0 cf cl
      go_roundg (offFrom 0 (l'.map PV.plc))
      case measure =>
        have h1 := HGK.out
        have h2 := HO2.out
        omega
      case rel => exact ⟨l', many + 1, (rfl : _ = _), (by have h1 := HGK.out; have h2 := HO2.out; have h3 := HGM.out; show _ = _; omega), HPL, HM2, HR2, HP9, HC9, HK9, HB9⟩

end Go.Proofs.YthmohjgdcjafkaeGreat

/- The contracts of package compact's Step and Pack. -/
namespace Go.Proofs.YthmohjgdcjafkaeGreat
open Go.RowKit Go.PlainAid Go.Lib

set_option maxRecDepth 100000

/-- What Step and Pack answer. -/
def stepAns (K : Ker) (L : List Plc) : (Ker × List Plc) × Bool × Int := if chkRg K L = 0 then ((K, (stepRes L).1), (stepRes L).2, 0) else ((emptyK, []), false, chkRg K L)
def packAns (K : Ker) (L : List Plc) : (Ker × List Plc) × Nat × Int := if chkRg K L = 0 then ((K, packFrom 0 L), offFrom 0 L, 0) else ((emptyK, []), 0, chkRg K L)
theorem zeroReg_owns (n : Nat) (W : World) : OwnsReg n W (.agg #[.int .i64 0, .int .i64 0, .slice none 0 0, .slice none 0 0]) emptyK [] := ⟨_, _, rfl, World.ownsRow_nil _ _ _ _, World.ownsRow_nil _ _ _ _, fun x hx => by simp at hx⟩
theorem OwnsReg.beCell {base B : Nat} {W W' : World} {v : Value} {K : Ker} {l : List PV} {t : TypeId} {cs : Array Value} (h : OwnsReg base W v K l) (hc : CellsAt W B t cs) (h1 : 128 ≠ t) (h2 : 100 ≠ t) (h3 : 102 ≠ t) (h4 : 54 ≠ t) (hg : W.grownBy W' (some B)) : OwnsReg base W' v K l := by
  obtain ⟨ve, vl, e, o1, o2, o3⟩ := h
  exact ⟨ve, vl, e, o1.kept hg (.inr (own_ne_cells o1 hc h1)), o2.kept hg (.inr (own_ne_cells o2 hc h4)), fun x hx => (o3 x hx).beCell hc h1 h2 h3 hg⟩
theorem OwnsReg.below {base : Nat} {W W' : World} {v : Value} {K : Ker} {l : List PV} (h : OwnsReg base W v K l) (hb : Below W.heap.size W W') : OwnsReg base W' v K l := by
  obtain ⟨ve, vl, e, o1, o2, o3⟩ := h
  exact ⟨ve, vl, e, own_below o1 hb, own_below o2 hb, fun x hx => (o3 x hx).below hb⟩
theorem OwnsReg.lower {base b : Nat} {W : World} {v : Value} {K : Ker} {l : List PV} (h : OwnsReg base W v K l) (hb : b ≤ base) : OwnsReg b W v K l := by
  obtain ⟨ve, vl, e, o1, o2, o3⟩ := h
  exact ⟨ve, vl, e, own_down o1 hb, own_down o2 hb, fun x hx => (o3 x hx).lower hb⟩


set_option maxHeartbeats 16000000 in
theorem compStep_any (K : Ker) (l : List PV) (v : Value) (w : World) (hreg : IsReg w.heap.size w v K l) (hf : K.fits) (hfit : ∀ x ∈ l, x.mod.fits) :
    Calls Tryz.prog 24 #[v] w fun e w' => (∃ (v' : Value) (l' : List PV), e = .returned (.tuple #[v', .bool (stepAns K (l.map PV.plc)).2.1, .int .i64 (stepAns K (l.map PV.plc)).2.2]) ∧ l'.map PV.plc = (stepAns K (l.map PV.plc)).1.2 ∧ (∀ x ∈ l', x.mod.fits) ∧ OwnsReg w.heap.size w' v' (stepAns K (l.map PV.plc)).1.1 l') ∧ Below w.heap.size w w' := by
  have HR0 : Hid (IsReg w.heap.size w v K l) := hreg
  obtain ⟨ve, vl, rfl, hE, hL⟩ := hreg
  obtain ⟨qe, je, rfl, -, -⟩ := hE
  obtain ⟨⟨a, cap, rfl, -, -⟩, -⟩ := hL
  generalize hlk : K.exps.length = lk at *
  have hB1 : Below w.heap.size w (((w.alloc (.cells #[.int .i64 K.major, .int .i64 K.minor, .slice qe lk je, .slice a l.length cap] 27)).alloc (.cells #[.int .i64 0, .int .i64 0, .slice none 0 0, .slice none 0 0] 27)).alloc (.cells #[.bool false] 4)) := (((Below.refl _ _).alloc (Nat.le_refl _) _).alloc (by simp) _).alloc (by simp; omega) _
  have hC1 : CellsAt (((w.alloc (.cells #[.int .i64 K.major, .int .i64 K.minor, .slice qe lk je, .slice a l.length cap] 27)).alloc (.cells #[.int .i64 0, .int .i64 0, .slice none 0 0, .slice none 0 0] 27)).alloc (.cells #[.bool false] 4)) w.heap.size 27 #[.int .i64 K.major, .int .i64 K.minor, .slice qe lk je, .slice a l.length cap] := ((CellsAt.new w 27 #[.int .i64 K.major, .int .i64 K.minor, .slice qe lk je, .slice a l.length cap]).kept (World.grownBy_alloc _ _ none) (by simp)).kept (World.grownBy_alloc _ _ none) (by simp)
  have hZ1 : CellsAt (((w.alloc (.cells #[.int .i64 K.major, .int .i64 K.minor, .slice qe lk je, .slice a l.length cap] 27)).alloc (.cells #[.int .i64 0, .int .i64 0, .slice none 0 0, .slice none 0 0] 27)).alloc (.cells #[.bool false] 4)) (w.heap.size + 1) 27 #[.int .i64 0, .int .i64 0, .slice none 0 0, .slice none 0 0] := by
    have := (CellsAt.new (w.alloc (.cells #[.int .i64 K.major, .int .i64 K.minor, .slice qe lk je, .slice a l.length cap] 27)) 27 #[.int .i64 0, .int .i64 0, .slice none 0 0, .slice none 0 0]).kept (World.grownBy_alloc _ (.cells #[.bool false] 4) none) (by simp)
    rw [World.size_alloc] at this
    exact this
  have hD1 : CellsAt (((w.alloc (.cells #[.int .i64 K.major, .int .i64 K.minor, .slice qe lk je, .slice a l.length cap] 27)).alloc (.cells #[.int .i64 0, .int .i64 0, .slice none 0 0, .slice none 0 0] 27)).alloc (.cells #[.bool false] 4)) (w.heap.size + 2) 4 #[.bool false] := by
    have := CellsAt.new ((w.alloc (.cells #[.int .i64 K.major, .int .i64 K.minor, .slice qe lk je, .slice a l.length cap] 27)).alloc (.cells #[.int .i64 0, .int .i64 0, .slice none 0 0, .slice none 0 0] 27)) 4 #[.bool false]
    rw [World.size_alloc, World.size_alloc] at this
    exact this
  have hs1 : ((((w.alloc (.cells #[.int .i64 K.major, .int .i64 K.minor, .slice qe lk je, .slice a l.length cap] 27)).alloc (.cells #[.int .i64 0, .int .i64 0, .slice none 0 0, .slice none 0 0] 27)).alloc (.cells #[.bool false] 4))).heap.size = w.heap.size + 3 := by simp
  have HPK : Hid (Calls Tryz.prog 61 #[.agg #[.int .i64 K.major, .int .i64 K.minor, .slice qe lk je, .slice a l.length cap], .func (.func 64) #[] #[.pointer (some ⟨w.heap.size + 2, 0, none⟩)]] (((w.alloc (.cells #[.int .i64 K.major, .int .i64 K.minor, .slice qe lk je, .slice a l.length cap] 27)).alloc (.cells #[.int .i64 0, .int .i64 0, .slice none 0 0, .slice none 0 0] 27)).alloc (.cells #[.bool false] 4)) fun e w' =>
      (chkRg K (l.map PV.plc) ≠ 0 ∧ e = .returned (.tuple #[.agg #[.int .i64 0, .int .i64 0, .slice none 0 0, .slice none 0 0], .int .i64 (chkRg K (l.map PV.plc))]) ∧ Below (w.heap.size + 3) (((w.alloc (.cells #[.int .i64 K.major, .int .i64 K.minor, .slice qe lk je, .slice a l.length cap] 27)).alloc (.cells #[.int .i64 0, .int .i64 0, .slice none 0 0, .slice none 0 0] 27)).alloc (.cells #[.bool false] 4)) w') ∨
      (chkRg K (l.map PV.plc) = 0 ∧ ∃ (v' : Value) (l' : List PV), e = .returned (.tuple #[v', .int .i64 0]) ∧ l'.map PV.plc = (stepRes (l.map PV.plc)).1 ∧ l'.map (·.mod) = l.map (·.mod) ∧ OwnsReg (w.heap.size + 3) w' v' K l' ∧ CellsAt w' (w.heap.size + 2) 4 #[.bool (stepRes (l.map PV.plc)).2] ∧ Below (w.heap.size + 2) (((w.alloc (.cells #[.int .i64 K.major, .int .i64 K.minor, .slice qe lk je, .slice a l.length cap] 27)).alloc (.cells #[.int .i64 0, .int .i64 0, .slice none 0 0, .slice none 0 0] 27)).alloc (.cells #[.bool false] 4)) w')) := by
    have h := packed_any K l (.agg #[.int .i64 K.major, .int .i64 K.minor, .slice qe lk je, .slice a l.length cap]) (((w.alloc (.cells #[.int .i64 K.major, .int .i64 K.minor, .slice qe lk je, .slice a l.length cap] 27)).alloc (.cells #[.int .i64 0, .int .i64 0, .slice none 0 0, .slice none 0 0] 27)).alloc (.cells #[.bool false] 4)) ((HR0.out.below hB1).more hB1.size) hf hfit 64 (.pointer (some ⟨w.heap.size + 2, 0, none⟩)) (fun W x => enters_of Tryz.func64 (by kernel_rfl) rfl _ W) (w.heap.size + 2) (by rw [hs1]; omega) (fun L' => L' = (stepRes (l.map PV.plc)).1) (fun W => CellsAt W (w.heap.size + 2) 4 #[.bool (stepRes (l.map PV.plc)).2]) (fun W W' B h1 h2 h3 => h3.kept h2 (by rw [hs1] at h1; intro e; have := Option.some.inj e; omega)) (fun h0 W Bp ve vl l0 hb hbp hp hpl hf0 => by
      rw [hs1] at hbp hp
      have h0' : chkRg K (l0.map PV.plc) = 0 := by rw [hpl]; exact h0
      have hb0 := CellsAt.below hD1 hb (by rw [hs1]; omega)
      refine (cpStepF_any K l0 ve vl (w.heap.size + 3) Bp (w.heap.size + 2) (w.heap.size + 2) false W hp hf0 (rg_lens h0').2.2.2 hb0 (by omega) hbp (Nat.le_refl _)).mono ?_
      rintro e w' ⟨he, ⟨l', h1, h2, h3, h4⟩, h5, h6⟩
      rw [hpl] at h1 h5
      exact ⟨he, ⟨l', h1, h2, by rw [hs1]; exact h3, fun B c q1 q2 q3 => h4 B c q1 (by rw [hs1] at q2; exact q2) q3⟩, h5, h6⟩)
    rw [hs1] at h
    exact h
  obtain ⟨AA, hAA⟩ : ∃ AA, AA = stepAns K (l.map PV.plc) := ⟨_, rfl⟩
  rw [← hAA]
  have HANS : Hid (AA = if chkRg K (l.map PV.plc) = 0 then ((K, (stepRes (l.map PV.plc)).1), (stepRes (l.map PV.plc)).2, 0) else ((emptyK, []), false, chkRg K (l.map PV.plc))) := hAA
  clear hAA
  obtain ⟨⟨AK, AL⟩, ab, ae⟩ := AA
  dsimp only
  have HB1 : Hid _ := hB1
  have HC1 : Hid _ := hC1
  have HZ1 : Hid _ := hZ1
  have HD1 : Hid _ := hD1
  have HFT : Hid (∀ x ∈ l, x.mod.fits) := hfit
  clear hB1 hC1 hZ1 hD1 HR0 hf hfit
  go_enter Tryz.func24, Tryz.ntmps24
  go_wp2_with fail
  refine HPK.out.mono ?_
  generalize (((w.alloc (.cells #[.int .i64 K.major, .int .i64 K.minor, .slice qe lk je, .slice a l.length cap] 27)).alloc (.cells #[.int .i64 0, .int .i64 0, .slice none 0 0, .slice none 0 0] 27)).alloc (.cells #[.bool false] 4)) = w1 at *
  have c0 := hs1
  clear c0
  rintro e w2 hpost
  have hb2 : Below (w.heap.size + 2) w1 w2 := by
    rcases hpost with ⟨_, _, h⟩ | ⟨_, _, _, _, _, _, _, _, h⟩
    · exact h.mono (by omega)
    · exact h
  have key : ∃ (v' : Value) (l' : List PV), e = .returned (.tuple #[v', .int .i64 ae]) ∧ l'.map PV.plc = AL ∧ (∀ x ∈ l', x.mod.fits) ∧ OwnsReg (w.heap.size + 3) w2 v' AK l' ∧ CellsAt w2 (w.heap.size + 2) 4 #[.bool ab] := by
    have hans := HANS.out
    rcases hpost with ⟨h0, he, hb⟩ | ⟨h0, v', l', he, h1, h2, h3, h4, _⟩
    · rw [if_neg h0] at hans
      injection hans with q1 q2
      injection q1 with q3 q4
      injection q2 with q5 q6
      subst q3 q4 q5 q6
      exact ⟨_, [], he, rfl, fun x hx => by simp at hx, zeroReg_owns _ _, CellsAt.below HD1.out hb (by omega)⟩
    · rw [if_pos h0] at hans
      injection hans with q1 q2
      injection q1 with q3 q4
      injection q2 with q5 q6
      subst q3 q4 q5 q6
      exact ⟨v', l', he, h1, fits_mods h2 HFT.out, h3, h4⟩
  clear hpost HPK HANS HFT
  obtain ⟨v', l', rfl, hpl, hft, how, hdc⟩ := key
  obtain ⟨ve', vl', rfl, o1, o2, o3⟩ := id how
  obtain ⟨ea, ec, rfl⟩ := own_form o1
  obtain ⟨pa, pc, rfl⟩ := own_form o2
  clear o1 o2 o3
  generalize hak : AK.exps.length = ak at *
  have HB2 : Hid (Below w.heap.size w (w2.alloc (.cells #[.int .i64 AK.major, .int .i64 AK.minor, .slice ea ak ec, .slice pa l'.length pc] 27)).drew) := by
    have := HB1.out.trans (hb2.mono (by omega))
    exact (this.alloc this.size _).drew
  have HZ2 : Hid (CellsAt (w2.alloc (.cells #[.int .i64 AK.major, .int .i64 AK.minor, .slice ea ak ec, .slice pa l'.length pc] 27)).drew (w.heap.size + 1) 27 #[.int .i64 0, .int .i64 0, .slice none 0 0, .slice none 0 0]) := (((CellsAt.below HZ1.out hb2 (by omega)).kept (World.grownBy_alloc _ _ none) (by simp)) : CellsAt (w2.alloc _) _ _ _)
  have HD2 : Hid (CellsAt (w2.alloc (.cells #[.int .i64 AK.major, .int .i64 AK.minor, .slice ea ak ec, .slice pa l'.length pc] 27)).drew (w.heap.size + 2) 4 #[.bool ab]) := ((hdc.kept (World.grownBy_alloc _ _ none) (by simp)) : CellsAt (w2.alloc _) _ _ _)
  have HX2 : Hid (CellsAt (w2.alloc (.cells #[.int .i64 AK.major, .int .i64 AK.minor, .slice ea ak ec, .slice pa l'.length pc] 27)).drew w2.heap.size 27 #[.int .i64 AK.major, .int .i64 AK.minor, .slice ea ak ec, .slice pa l'.length pc]) := (CellsAt.new w2 27 _ : CellsAt (w2.alloc _) _ _ _)
  have HO2 : Hid (OwnsReg (w.heap.size + 3) (w2.alloc (.cells #[.int .i64 AK.major, .int .i64 AK.minor, .slice ea ak ec, .slice pa l'.length pc] 27)).drew (.agg #[.int .i64 AK.major, .int .i64 AK.minor, .slice ea ak ec, .slice pa l'.length pc]) AK l') := how.below (((Below.refl _ _).alloc (Nat.le_refl _) _).drew)
  have LX : w.heap.size + 2 < w2.heap.size := hdc.lt
  have HPL : Hid (l'.map PV.plc = AL) := hpl
  have HFT : Hid (∀ x ∈ l', x.mod.fits) := hft
  clear hb2 how hdc hpl hft HB1 HC1 HZ1 HD1
  go_upto_region 3 with fail
  refine wp_region_noPanic ?_
  refine wp_region_L (S := fun w' => CellsAt w' w2.heap.size 27 #[.int .i64 AK.major, .int .i64 AK.minor, .slice ea ak ec, .slice pa l'.length pc] ∧ CellsAt w' (w.heap.size + 2) 4 #[.bool ab]) (x := 5) (by kernel_rfl) ?_
  generalize (w2.alloc (.cells #[.int .i64 AK.major, .int .i64 AK.minor, .slice ea ak ec, .slice pa l'.length pc] 27)).drew = w3 at *
  generalize w2.heap.size = B6 at *
  have hS0 : CellsAt w3 B6 27 #[.int .i64 AK.major, .int .i64 AK.minor, .slice ea ak ec, .slice pa l'.length pc] ∧ CellsAt w3 (w.heap.size + 2) 4 #[.bool ab] := ⟨HX2.out, HD2.out⟩
  refine wpL_take 0 14 (.agg #[.int .i64 AK.major, .int .i64 AK.minor, .slice ea ak ec, .slice pa l'.length pc]) rfl (by kernel_rfl) (fun _ _ _ h => h) hS0 rfl rfl (fun w' hSw => by have q0 := CellsAt.cell hSw.1 0; have q1 := CellsAt.cell hSw.1 1; have q2 := CellsAt.cell hSw.1 2; have q3 := CellsAt.cell hSw.1 3; simp at q0 q1 q2 q3; clear hSw; go_simp) ?_
  simp only [List.setIfInBounds_toArray, List.set_cons_zero, List.set_cons_succ]
  refine wpL_take 1 15 (.bool ab) rfl (by kernel_rfl) (fun _ _ _ h => h) hS0 rfl rfl (fun w' hSw => by have q0 := CellsAt.cell hSw.2 0; simp at q0; clear hSw; go_simp) ?_
  simp only [List.setIfInBounds_toArray, List.set_cons_zero, List.set_cons_succ]
  refine wpL_take 2 16 (.int .i64 ae) rfl (by kernel_rfl) (fun _ _ _ h => h) hS0 rfl rfl (fun w' hSw => by clear hSw; go_simp) ?_
  simp only [List.setIfInBounds_toArray, List.set_cons_zero, List.set_cons_succ]
  clear hS0
  have z0 := CellsAt.cell HZ2.out 0
  have z1 := CellsAt.cell HZ2.out 1
  have z2 := CellsAt.cell HZ2.out 2
  have z3 := CellsAt.cell HZ2.out 3
  have f0 := CellsAt.frozen HZ2.out 0
  have f1 := CellsAt.frozen HZ2.out 1
  have f2 := CellsAt.frozen HZ2.out 2
  have f3 := CellsAt.frozen HZ2.out 3
  have lz := CellsAt.lt HZ2.out
  simp at z0 z1 z2 z3
  refine wpL_step (i := 3) rfl (by kernel_rfl) (fun Kq hK => ?_)
  go_simp
  have hZ9 := sets4 HZ2.out (.int .i64 AK.major) (.int .i64 AK.minor) (.slice ea ak ec) (.slice pa l'.length pc)
  have hG9 := sets4_grown w3 (w.heap.size + 1) (.int .i64 AK.major) (.int .i64 AK.minor) (.slice ea ak ec) (.slice pa l'.length pc)
  have hX9 := HX2.out.kept hG9 (by intro e; have := Option.some.inj e; omega)
  have hD9 := HD2.out.kept hG9 (by intro e; have := Option.some.inj e; omega)
  refine hK.out _ _ ⟨hX9, hD9⟩ (fun _ => ?_)
  clear hK
  have HZ9 : Hid _ := hZ9
  have HG9 : Hid _ := hG9
  clear hX9 z0 z1 z2 z3 f0 f1 f2 f3 lz
  refine wpL_take 4 3 (.bool ab) rfl (by kernel_rfl) (fun _ _ _ h => h) (show _ ∧ _ from ⟨HX2.out.kept HG9.out (by intro e; have := Option.some.inj e; omega), HD2.out.kept HG9.out (by intro e; have := Option.some.inj e; omega)⟩) rfl rfl (fun w' hSw => by clear hSw; go_simp) ?_
  simp only [List.setIfInBounds_toArray, List.set_cons_zero, List.set_cons_succ]
  clear hZ9 hG9 hD9
  refine wpL_last (x := 5) rfl (by kernel_rfl) (by kernel_rfl) (fun Kq hK => ?_)
  go_simp
  refine hK.out _ _ ?_
  refine NoPanic.normal ?_
  clear hK
  first | go_wp2 | skip
  refine bodyPost_ret (results_ctt_row rfl _ _ _ _ _ _ _ rfl HZ9.out Tryz.underlying27 rfl (by kernel_rfl)) rfl ?_
  exact ⟨⟨_, l', rfl, HPL.out, HFT.out, (HO2.out.beCell HZ2.out (by decide) (by decide) (by decide) (by decide) HG9.out).lower (b := w.heap.size) (by omega)⟩, HB2.out.grown HG9.out HB2.out.size (fun q hq => by obtain rfl := Option.some.inj hq; omega)⟩


set_option maxHeartbeats 16000000 in
theorem compPack_any (K : Ker) (l : List PV) (v : Value) (w : World) (hreg : IsReg w.heap.size w v K l) (hf : K.fits) (hfit : ∀ x ∈ l, x.mod.fits) :
    Calls Tryz.prog 22 #[v] w fun e w' => (∃ (v' : Value) (l' : List PV), e = .returned (.tuple #[v', .int .i64 ((packAns K (l.map PV.plc)).2.1 : Int), .int .i64 (packAns K (l.map PV.plc)).2.2]) ∧ l'.map PV.plc = (packAns K (l.map PV.plc)).1.2 ∧ (∀ x ∈ l', x.mod.fits) ∧ OwnsReg w.heap.size w' v' (packAns K (l.map PV.plc)).1.1 l') ∧ Below w.heap.size w w' := by
  have HR0 : Hid (IsReg w.heap.size w v K l) := hreg
  obtain ⟨ve, vl, rfl, hE, hL⟩ := hreg
  obtain ⟨qe, je, rfl, -, -⟩ := hE
  obtain ⟨⟨a, cap, rfl, -, -⟩, -⟩ := hL
  generalize hlk : K.exps.length = lk at *
  have hB1 : Below w.heap.size w (((w.alloc (.cells #[.int .i64 K.major, .int .i64 K.minor, .slice qe lk je, .slice a l.length cap] 27)).alloc (.cells #[.int .i64 0, .int .i64 0, .slice none 0 0, .slice none 0 0] 27)).alloc (.cells #[.int .i64 0] 3)) := (((Below.refl _ _).alloc (Nat.le_refl _) _).alloc (by simp) _).alloc (by simp; omega) _
  have hC1 : CellsAt (((w.alloc (.cells #[.int .i64 K.major, .int .i64 K.minor, .slice qe lk je, .slice a l.length cap] 27)).alloc (.cells #[.int .i64 0, .int .i64 0, .slice none 0 0, .slice none 0 0] 27)).alloc (.cells #[.int .i64 0] 3)) w.heap.size 27 #[.int .i64 K.major, .int .i64 K.minor, .slice qe lk je, .slice a l.length cap] := ((CellsAt.new w 27 #[.int .i64 K.major, .int .i64 K.minor, .slice qe lk je, .slice a l.length cap]).kept (World.grownBy_alloc _ _ none) (by simp)).kept (World.grownBy_alloc _ _ none) (by simp)
  have hZ1 : CellsAt (((w.alloc (.cells #[.int .i64 K.major, .int .i64 K.minor, .slice qe lk je, .slice a l.length cap] 27)).alloc (.cells #[.int .i64 0, .int .i64 0, .slice none 0 0, .slice none 0 0] 27)).alloc (.cells #[.int .i64 0] 3)) (w.heap.size + 1) 27 #[.int .i64 0, .int .i64 0, .slice none 0 0, .slice none 0 0] := by
    have := (CellsAt.new (w.alloc (.cells #[.int .i64 K.major, .int .i64 K.minor, .slice qe lk je, .slice a l.length cap] 27)) 27 #[.int .i64 0, .int .i64 0, .slice none 0 0, .slice none 0 0]).kept (World.grownBy_alloc _ (.cells #[.int .i64 0] 3) none) (by simp)
    rw [World.size_alloc] at this
    exact this
  have hD1 : CellsAt (((w.alloc (.cells #[.int .i64 K.major, .int .i64 K.minor, .slice qe lk je, .slice a l.length cap] 27)).alloc (.cells #[.int .i64 0, .int .i64 0, .slice none 0 0, .slice none 0 0] 27)).alloc (.cells #[.int .i64 0] 3)) (w.heap.size + 2) 3 #[.int .i64 0] := by
    have := CellsAt.new ((w.alloc (.cells #[.int .i64 K.major, .int .i64 K.minor, .slice qe lk je, .slice a l.length cap] 27)).alloc (.cells #[.int .i64 0, .int .i64 0, .slice none 0 0, .slice none 0 0] 27)) 3 #[.int .i64 0]
    rw [World.size_alloc, World.size_alloc] at this
    exact this
  have hs1 : ((((w.alloc (.cells #[.int .i64 K.major, .int .i64 K.minor, .slice qe lk je, .slice a l.length cap] 27)).alloc (.cells #[.int .i64 0, .int .i64 0, .slice none 0 0, .slice none 0 0] 27)).alloc (.cells #[.int .i64 0] 3))).heap.size = w.heap.size + 3 := by simp
  have HPK : Hid (Calls Tryz.prog 61 #[.agg #[.int .i64 K.major, .int .i64 K.minor, .slice qe lk je, .slice a l.length cap], .func (.func 62) #[] #[.pointer (some ⟨w.heap.size + 2, 0, none⟩)]] (((w.alloc (.cells #[.int .i64 K.major, .int .i64 K.minor, .slice qe lk je, .slice a l.length cap] 27)).alloc (.cells #[.int .i64 0, .int .i64 0, .slice none 0 0, .slice none 0 0] 27)).alloc (.cells #[.int .i64 0] 3)) fun e w' =>
      (chkRg K (l.map PV.plc) ≠ 0 ∧ e = .returned (.tuple #[.agg #[.int .i64 0, .int .i64 0, .slice none 0 0, .slice none 0 0], .int .i64 (chkRg K (l.map PV.plc))]) ∧ Below (w.heap.size + 3) (((w.alloc (.cells #[.int .i64 K.major, .int .i64 K.minor, .slice qe lk je, .slice a l.length cap] 27)).alloc (.cells #[.int .i64 0, .int .i64 0, .slice none 0 0, .slice none 0 0] 27)).alloc (.cells #[.int .i64 0] 3)) w') ∨
      (chkRg K (l.map PV.plc) = 0 ∧ ∃ (v' : Value) (l' : List PV), e = .returned (.tuple #[v', .int .i64 0]) ∧ l'.map PV.plc = packFrom 0 (l.map PV.plc) ∧ l'.map (·.mod) = l.map (·.mod) ∧ OwnsReg (w.heap.size + 3) w' v' K l' ∧ CellsAt w' (w.heap.size + 2) 3 #[.int .i64 (offFrom 0 (l.map PV.plc) : Int)] ∧ Below (w.heap.size + 2) (((w.alloc (.cells #[.int .i64 K.major, .int .i64 K.minor, .slice qe lk je, .slice a l.length cap] 27)).alloc (.cells #[.int .i64 0, .int .i64 0, .slice none 0 0, .slice none 0 0] 27)).alloc (.cells #[.int .i64 0] 3)) w')) := by
    have h := packed_any K l (.agg #[.int .i64 K.major, .int .i64 K.minor, .slice qe lk je, .slice a l.length cap]) (((w.alloc (.cells #[.int .i64 K.major, .int .i64 K.minor, .slice qe lk je, .slice a l.length cap] 27)).alloc (.cells #[.int .i64 0, .int .i64 0, .slice none 0 0, .slice none 0 0] 27)).alloc (.cells #[.int .i64 0] 3)) ((HR0.out.below hB1).more hB1.size) hf hfit 62 (.pointer (some ⟨w.heap.size + 2, 0, none⟩)) (fun W x => enters_of Tryz.func62 (by kernel_rfl) rfl _ W) (w.heap.size + 2) (by rw [hs1]; omega) (fun L' => L' = packFrom 0 (l.map PV.plc)) (fun W => CellsAt W (w.heap.size + 2) 3 #[.int .i64 (offFrom 0 (l.map PV.plc) : Int)]) (fun W W' B h1 h2 h3 => h3.kept h2 (by rw [hs1] at h1; intro e; have := Option.some.inj e; omega)) (fun h0 W Bp ve vl l0 hb hbp hp hpl hf0 => by
      rw [hs1] at hbp hp
      have h0' : chkRg K (l0.map PV.plc) = 0 := by rw [hpl]; exact h0
      have hb0 := CellsAt.below hD1 hb (by rw [hs1]; omega)
      refine (cpPackF_any K l0 ve vl (w.heap.size + 3) Bp (w.heap.size + 2) (w.heap.size + 2) W hp hf0 h0' hb0 (by omega) hbp (Nat.le_refl _)).mono ?_
      rintro e w' ⟨he, ⟨l', h1, h2, h3, h4⟩, h5, h6⟩
      rw [hpl] at h1 h5
      exact ⟨he, ⟨l', h1, h2, by rw [hs1]; exact h3, fun B c q1 q2 q3 => h4 B c q1 (by rw [hs1] at q2; exact q2) q3⟩, h5, h6⟩)
    rw [hs1] at h
    exact h
  obtain ⟨AA, hAA⟩ : ∃ AA, AA = packAns K (l.map PV.plc) := ⟨_, rfl⟩
  rw [← hAA]
  have HANS : Hid (AA = if chkRg K (l.map PV.plc) = 0 then ((K, packFrom 0 (l.map PV.plc)), offFrom 0 (l.map PV.plc), 0) else ((emptyK, []), 0, chkRg K (l.map PV.plc))) := hAA
  clear hAA
  obtain ⟨⟨AK, AL⟩, ab, ae⟩ := AA
  dsimp only
  have HB1 : Hid _ := hB1
  have HC1 : Hid _ := hC1
  have HZ1 : Hid _ := hZ1
  have HD1 : Hid _ := hD1
  have HFT : Hid (∀ x ∈ l, x.mod.fits) := hfit
  clear hB1 hC1 hZ1 hD1 HR0 hf hfit
  go_enter Tryz.func22, Tryz.ntmps22
  go_wp2_with fail
  refine HPK.out.mono ?_
  generalize (((w.alloc (.cells #[.int .i64 K.major, .int .i64 K.minor, .slice qe lk je, .slice a l.length cap] 27)).alloc (.cells #[.int .i64 0, .int .i64 0, .slice none 0 0, .slice none 0 0] 27)).alloc (.cells #[.int .i64 0] 3)) = w1 at *
  have c0 := hs1
  clear c0
  rintro e w2 hpost
  have hb2 : Below (w.heap.size + 2) w1 w2 := by
    rcases hpost with ⟨_, _, h⟩ | ⟨_, _, _, _, _, _, _, _, h⟩
    · exact h.mono (by omega)
    · exact h
  have key : ∃ (v' : Value) (l' : List PV), e = .returned (.tuple #[v', .int .i64 ae]) ∧ l'.map PV.plc = AL ∧ (∀ x ∈ l', x.mod.fits) ∧ OwnsReg (w.heap.size + 3) w2 v' AK l' ∧ CellsAt w2 (w.heap.size + 2) 3 #[.int .i64 (ab : Int)] := by
    have hans := HANS.out
    rcases hpost with ⟨h0, he, hb⟩ | ⟨h0, v', l', he, h1, h2, h3, h4, _⟩
    · rw [if_neg h0] at hans
      injection hans with q1 q2
      injection q1 with q3 q4
      injection q2 with q5 q6
      subst q3 q4 q5 q6
      exact ⟨_, [], he, rfl, fun x hx => by simp at hx, zeroReg_owns _ _, CellsAt.below HD1.out hb (by omega)⟩
    · rw [if_pos h0] at hans
      injection hans with q1 q2
      injection q1 with q3 q4
      injection q2 with q5 q6
      subst q3 q4 q5 q6
      exact ⟨v', l', he, h1, fits_mods h2 HFT.out, h3, h4⟩
  clear hpost HPK HANS HFT
  obtain ⟨v', l', rfl, hpl, hft, how, hdc⟩ := key
  obtain ⟨ve', vl', rfl, o1, o2, o3⟩ := id how
  obtain ⟨ea, ec, rfl⟩ := own_form o1
  obtain ⟨pa, pc, rfl⟩ := own_form o2
  clear o1 o2 o3
  generalize hak : AK.exps.length = ak at *
  have HB2 : Hid (Below w.heap.size w (w2.alloc (.cells #[.int .i64 AK.major, .int .i64 AK.minor, .slice ea ak ec, .slice pa l'.length pc] 27)).drew) := by
    have := HB1.out.trans (hb2.mono (by omega))
    exact (this.alloc this.size _).drew
  have HZ2 : Hid (CellsAt (w2.alloc (.cells #[.int .i64 AK.major, .int .i64 AK.minor, .slice ea ak ec, .slice pa l'.length pc] 27)).drew (w.heap.size + 1) 27 #[.int .i64 0, .int .i64 0, .slice none 0 0, .slice none 0 0]) := (((CellsAt.below HZ1.out hb2 (by omega)).kept (World.grownBy_alloc _ _ none) (by simp)) : CellsAt (w2.alloc _) _ _ _)
  have HD2 : Hid (CellsAt (w2.alloc (.cells #[.int .i64 AK.major, .int .i64 AK.minor, .slice ea ak ec, .slice pa l'.length pc] 27)).drew (w.heap.size + 2) 3 #[.int .i64 (ab : Int)]) := ((hdc.kept (World.grownBy_alloc _ _ none) (by simp)) : CellsAt (w2.alloc _) _ _ _)
  have HX2 : Hid (CellsAt (w2.alloc (.cells #[.int .i64 AK.major, .int .i64 AK.minor, .slice ea ak ec, .slice pa l'.length pc] 27)).drew w2.heap.size 27 #[.int .i64 AK.major, .int .i64 AK.minor, .slice ea ak ec, .slice pa l'.length pc]) := (CellsAt.new w2 27 _ : CellsAt (w2.alloc _) _ _ _)
  have HO2 : Hid (OwnsReg (w.heap.size + 3) (w2.alloc (.cells #[.int .i64 AK.major, .int .i64 AK.minor, .slice ea ak ec, .slice pa l'.length pc] 27)).drew (.agg #[.int .i64 AK.major, .int .i64 AK.minor, .slice ea ak ec, .slice pa l'.length pc]) AK l') := how.below (((Below.refl _ _).alloc (Nat.le_refl _) _).drew)
  have LX : w.heap.size + 2 < w2.heap.size := hdc.lt
  have HPL : Hid (l'.map PV.plc = AL) := hpl
  have HFT : Hid (∀ x ∈ l', x.mod.fits) := hft
  clear hb2 how hdc hpl hft HB1 HC1 HZ1 HD1
  go_upto_region 3 with fail
  refine wp_region_noPanic ?_
  refine wp_region_L (S := fun w' => CellsAt w' w2.heap.size 27 #[.int .i64 AK.major, .int .i64 AK.minor, .slice ea ak ec, .slice pa l'.length pc] ∧ CellsAt w' (w.heap.size + 2) 3 #[.int .i64 (ab : Int)]) (x := 5) (by kernel_rfl) ?_
  generalize (w2.alloc (.cells #[.int .i64 AK.major, .int .i64 AK.minor, .slice ea ak ec, .slice pa l'.length pc] 27)).drew = w3 at *
  generalize w2.heap.size = B6 at *
  have hS0 : CellsAt w3 B6 27 #[.int .i64 AK.major, .int .i64 AK.minor, .slice ea ak ec, .slice pa l'.length pc] ∧ CellsAt w3 (w.heap.size + 2) 3 #[.int .i64 (ab : Int)] := ⟨HX2.out, HD2.out⟩
  refine wpL_take 0 14 (.agg #[.int .i64 AK.major, .int .i64 AK.minor, .slice ea ak ec, .slice pa l'.length pc]) rfl (by kernel_rfl) (fun _ _ _ h => h) hS0 rfl rfl (fun w' hSw => by have q0 := CellsAt.cell hSw.1 0; have q1 := CellsAt.cell hSw.1 1; have q2 := CellsAt.cell hSw.1 2; have q3 := CellsAt.cell hSw.1 3; simp at q0 q1 q2 q3; clear hSw; go_simp) ?_
  simp only [List.setIfInBounds_toArray, List.set_cons_zero, List.set_cons_succ]
  refine wpL_take 1 15 (.int .i64 (ab : Int)) rfl (by kernel_rfl) (fun _ _ _ h => h) hS0 rfl rfl (fun w' hSw => by have q0 := CellsAt.cell hSw.2 0; simp at q0; clear hSw; go_simp) ?_
  simp only [List.setIfInBounds_toArray, List.set_cons_zero, List.set_cons_succ]
  refine wpL_take 2 16 (.int .i64 ae) rfl (by kernel_rfl) (fun _ _ _ h => h) hS0 rfl rfl (fun w' hSw => by clear hSw; go_simp) ?_
  simp only [List.setIfInBounds_toArray, List.set_cons_zero, List.set_cons_succ]
  clear hS0
  have z0 := CellsAt.cell HZ2.out 0
  have z1 := CellsAt.cell HZ2.out 1
  have z2 := CellsAt.cell HZ2.out 2
  have z3 := CellsAt.cell HZ2.out 3
  have f0 := CellsAt.frozen HZ2.out 0
  have f1 := CellsAt.frozen HZ2.out 1
  have f2 := CellsAt.frozen HZ2.out 2
  have f3 := CellsAt.frozen HZ2.out 3
  have lz := CellsAt.lt HZ2.out
  simp at z0 z1 z2 z3
  refine wpL_step (i := 3) rfl (by kernel_rfl) (fun Kq hK => ?_)
  go_simp
  have hZ9 := sets4 HZ2.out (.int .i64 AK.major) (.int .i64 AK.minor) (.slice ea ak ec) (.slice pa l'.length pc)
  have hG9 := sets4_grown w3 (w.heap.size + 1) (.int .i64 AK.major) (.int .i64 AK.minor) (.slice ea ak ec) (.slice pa l'.length pc)
  have hX9 := HX2.out.kept hG9 (by intro e; have := Option.some.inj e; omega)
  have hD9 := HD2.out.kept hG9 (by intro e; have := Option.some.inj e; omega)
  refine hK.out _ _ ⟨hX9, hD9⟩ (fun _ => ?_)
  clear hK
  have HZ9 : Hid _ := hZ9
  have HG9 : Hid _ := hG9
  clear hX9 z0 z1 z2 z3 f0 f1 f2 f3 lz
  refine wpL_take 4 3 (.int .i64 (ab : Int)) rfl (by kernel_rfl) (fun _ _ _ h => h) (show _ ∧ _ from ⟨HX2.out.kept HG9.out (by intro e; have := Option.some.inj e; omega), HD2.out.kept HG9.out (by intro e; have := Option.some.inj e; omega)⟩) rfl rfl (fun w' hSw => by clear hSw; go_simp) ?_
  simp only [List.setIfInBounds_toArray, List.set_cons_zero, List.set_cons_succ]
  clear hZ9 hG9 hD9
  refine wpL_last (x := 5) rfl (by kernel_rfl) (by kernel_rfl) (fun Kq hK => ?_)
  go_simp
  refine hK.out _ _ ?_
  refine NoPanic.normal ?_
  clear hK
  first | go_wp2 | skip
  refine bodyPost_ret (results_ctt_row rfl _ _ _ _ _ _ _ rfl HZ9.out Tryz.underlying27 rfl (by kernel_rfl)) rfl ?_
  exact ⟨⟨_, l', rfl, HPL.out, HFT.out, (HO2.out.beCell HZ2.out (by decide) (by decide) (by decide) (by decide) HG9.out).lower (b := w.heap.size) (by omega)⟩, HB2.out.grown HG9.out HB2.out.size (fun q hq => by obtain rfl := Option.some.inj hq; omega)⟩

end Go.Proofs.YthmohjgdcjafkaeGreat
