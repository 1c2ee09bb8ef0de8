/- What deeds make of blocks is what they make of bytes. -/
import Derived.Test.YtnomapbiklfciafFlX
namespace Go.Proofs.Ytnomapbiklfciaf
open Go.RowKit Go.PlainAid

set_option maxRecDepth 100000

theorem u8_ext {a b : UInt8} (h : ∀ i, i < 8 → a.toBitVec.getLsbD i = b.toBitVec.getLsbD i) : a = b :=
  UInt8.toBitVec_inj.1 (BitVec.eq_of_getLsbD_eq (fun i hi => h i hi))
theorem u8_x1 (b : UInt8) : b ^^^ (b ^^^ 255) = 255 := by
  apply u8_ext; intro i hi
  simp only [UInt8.toBitVec_xor, BitVec.getLsbD_xor]
  cases b.toBitVec.getLsbD i <;> simp
theorem u8_x2 (b v : UInt8) : b ^^^ (b ^^^ (b &&& v)) = b &&& v := by
  apply u8_ext; intro i hi
  simp only [UInt8.toBitVec_xor, UInt8.toBitVec_and, BitVec.getLsbD_xor, BitVec.getLsbD_and]
  cases b.toBitVec.getLsbD i <;> cases v.toBitVec.getLsbD i <;> rfl
theorem u8_x3 (b p : UInt8) : b ^^^ ((b ^^^ 255) &&& p) = mixB b 255 (255 - p) := by
  have e : (255 : UInt8) - p = ~~~p := by
    apply UInt8.toNat_inj.1
    rw [UInt8.toNat_sub_of_le _ _ (by rw [UInt8.le_iff_toNat_le]; have := p.toNat_lt; show p.toNat ≤ 255; omega), UInt8.toNat_not]
    rfl
  have f : ∀ i, i < 8 → (255 : UInt8).toBitVec.getLsbD i = true := by decide
  rw [e]
  apply u8_ext; intro i hi
  unfold mixB
  simp only [UInt8.toBitVec_xor, UInt8.toBitVec_and, UInt8.toBitVec_or, UInt8.toBitVec_not, BitVec.getLsbD_xor, BitVec.getLsbD_and, BitVec.getLsbD_or, BitVec.getLsbD_not, f i hi, hi, decide_true, Bool.true_and]
  cases b.toBitVec.getLsbD i <;> cases p.toBitVec.getLsbD i <;> rfl
theorem u8_x4 (b v s : UInt8) : b ^^^ ((b ^^^ (b &&& v)) &&& ~~~s) = mixB b (b &&& v) s := by
  apply u8_ext; intro i hi
  unfold mixB
  simp only [UInt8.toBitVec_xor, UInt8.toBitVec_and, UInt8.toBitVec_or, UInt8.toBitVec_not, BitVec.getLsbD_xor, BitVec.getLsbD_and, BitVec.getLsbD_or, BitVec.getLsbD_not, hi, decide_true, Bool.true_and]
  cases b.toBitVec.getLsbD i <;> cases v.toBitVec.getLsbD i <;> cases s.toBitVec.getLsbD i <;> rfl
theorem u8_x5 (b s : UInt8) : mixB b b s = b := by
  apply u8_ext; intro i hi
  unfold mixB
  simp only [UInt8.toBitVec_and, UInt8.toBitVec_or, UInt8.toBitVec_not, BitVec.getLsbD_and, BitVec.getLsbD_or, BitVec.getLsbD_not, hi, decide_true, Bool.true_and]
  cases b.toBitVec.getLsbD i <;> cases s.toBitVec.getLsbD i <;> rfl
theorem u8_x6 (b c : UInt8) : mixB b c 255 = b := by
  have f : ∀ i, i < 8 → (255 : UInt8).toBitVec.getLsbD i = true := by decide
  apply u8_ext; intro i hi
  unfold mixB
  simp only [UInt8.toBitVec_and, UInt8.toBitVec_or, UInt8.toBitVec_not, BitVec.getLsbD_and, BitVec.getLsbD_or, BitVec.getLsbD_not, f i hi, hi, decide_true, Bool.true_and]
  cases b.toBitVec.getLsbD i <;> cases c.toBitVec.getLsbD i <;> rfl

theorem joinM_at : ∀ {F : List ByteArray}, (∀ b ∈ F, b.size = 128) → ∀ (q i : Nat), i < 128 → (joinM F)[q * 128 + i]? = (F[q]?).bind fun b => b.data.toList[i]?
  | [], _, q, i, _ => by simp [joinM]
  | x :: F, h, 0, i, hi => by
    have hx : x.data.toList.length = 128 := by have := h x (List.mem_cons_self ..); have e : x.data.toList.length = x.size := by simp
                                               omega
    unfold joinM
    rw [List.flatMap_cons, Nat.zero_mul, Nat.zero_add, List.getElem?_append_left (by omega)]
    rfl
  | x :: F, h, q + 1, i, hi => by
    have hx : x.data.toList.length = 128 := by have := h x (List.mem_cons_self ..); have e : x.data.toList.length = x.size := by simp
                                               omega
    have ih := joinM_at (F := F) (fun b hb => h b (List.mem_cons_of_mem _ hb)) q i hi
    unfold joinM at ih ⊢
    rw [List.flatMap_cons, List.getElem?_append_right (by omega), hx, show (q + 1) * 128 + i - 128 = q * 128 + i by omega, ih]
    rfl
theorem joinM_ext {n : Nat} {F : List ByteArray} {c : List UInt8} (hF : GoodF n F) (hc : c.length = n * 128) (h : ∀ q i, q < n → i < 128 → c[q * 128 + i]? = (F[q]?).bind fun b => b.data.toList[i]?) : c = joinM F := by
  apply List.ext_getElem?
  intro j
  by_cases hj : j < n * 128
  · have h1 := h (j / 128) (j % 128) (by omega) (Nat.mod_lt _ (by decide))
    have h2 := joinM_at hF.2.2.2 (j / 128) (j % 128) (Nat.mod_lt _ (by decide))
    rw [show j / 128 * 128 + j % 128 = j by omega] at h1 h2
    rw [h1, h2]
  · rw [List.getElem?_eq_none (by omega), List.getElem?_eq_none (by rw [joinM_length hF.2.2.2, hF.1]; omega)]
theorem blocksM_join {n : Nat} {F : List ByteArray} (hF : GoodF n F) : blocksM (joinM F) = F := by
  have hl := joinM_length hF.2.2.2
  unfold blocksM
  rw [hl, Nat.mul_div_cancel _ (by decide)]
  apply List.ext_getElem?
  intro q
  rw [List.getElem?_map]
  by_cases hq : q < F.length
  · rw [List.getElem?_range hq, List.getElem?_eq_getElem hq]
    show some (blockAt (joinM F) q) = _
    congr 1
    apply ByteArray.ext
    apply Array.toList_inj.1
    unfold blockAt
    show (((joinM F).drop (q * 128)).take 128) = _
    have hs : F[q].data.toList.length = 128 := by
      have := hF.2.2.2 F[q] (List.getElem_mem hq)
      have e : F[q].data.toList.length = F[q].size := by simp
      omega
    apply List.ext_getElem?
    intro i
    by_cases hi : i < 128
    · rw [List.getElem?_take_of_lt hi, List.getElem?_drop, joinM_at hF.2.2.2 q i hi, List.getElem?_eq_getElem hq]
      rfl
    · rw [List.getElem?_eq_none (by rw [List.length_take]; omega), List.getElem?_eq_none (by omega)]
  · rw [List.getElem?_eq_none (by simpa using hq), List.getElem?_eq_none (by omega)]
    rfl

/-- The byte that lies there. -/
theorem good_byte {n : Nat} {F : List ByteArray} (hF : GoodF n F) {q i : Nat} (hq : q < n) (hi : i < 128) : ∃ b y, F[q]? = some b ∧ b.data.toList[i]? = some y ∧ b.data.toList.length = 128 := by
  have hq' : q < F.length := by rw [hF.1]; exact hq
  have hs : F[q].data.toList.length = 128 := by
    have := hF.2.2.2 F[q] (List.getElem_mem hq')
    have e : F[q].data.toList.length = F[q].size := by simp
    omega
  exact ⟨F[q], F[q].data.toList[i], List.getElem?_eq_getElem hq', List.getElem?_eq_getElem (by omega), hs⟩

theorem dBytes_length {n : Nat} {F : List ByteArray} (hF : GoodF n F) {d : Deed} (h : chkDeed (n * 128) d = 0) : (dBytes F d).length = 128 := by
  obtain ⟨_, _, _, h4, h5⟩ := deed_right h
  unfold dBytes
  rcases h5 with ⟨hk, hs, hm⟩ | ⟨hk, _, hs, hm⟩
  · rw [if_neg (by omega), List.length_set]
    obtain ⟨b, y, hb, _, hl⟩ := good_byte hF (q := d.pos.toNat / 128) (i := 0) (by omega) (by decide)
    rw [List.getD_eq_getElem?_getD, hb]
    exact hl
  · rw [if_pos hk, List.length_replicate]
theorem doneB_good {n : Nat} {F : List ByteArray} (hF : GoodF n F) {d : Deed} (h : chkDeed (n * 128) d = 0) : GoodF n (doneB F d) := hF.set _ _ (by rw [size_mk, dBytes_length hF h])
theorem tornB_good {n : Nat} {F : List ByteArray} (hF : GoodF n F) {d : Deed} (h : chkDeed (n * 128) d = 0) (p : ByteArray) : GoodF n (tornB F d p) := hF.set _ _ (by rw [size_mk]; unfold tornL; rw [tornK_length, dBytes_length hF h])

theorem set_here {α : Type} (l : List α) (k q : Nat) (x : α) (h : k = q) (hk : k < l.length) : (l.set k x)[q]? = some x := by
  subst h
  exact List.getElem?_set_self hk
theorem set_there {α : Type} (l : List α) (k q : Nat) (x : α) (h : k ≠ q) : (l.set k x)[q]? = l[q]? := List.getElem?_set_ne h

theorem turn_done {n : Nat} {F : List ByteArray} (hF : GoodF n F) {d : Deed} (h : chkDeed (n * 128) d = 0) : turnM allT d (joinM F) = joinM (doneB F d) := by
  obtain ⟨h1, h2, h3, h4, h5⟩ := deed_right h
  have hblk := dBlk_lt h
  refine joinM_ext (doneB_good hF h) (by rw [turnM_length, joinM_length hF.2.2.2, hF.1]) fun q i hq hi => ?_
  obtain ⟨b, y, hb, hy, hl⟩ := good_byte hF hq hi
  unfold turnM
  rw [turnK_at, joinM_at hF.2.2.2 q i hi, hb]
  simp only [Option.bind_some, hy, Option.map_some]
  unfold doneB
  rcases h5 with ⟨hk, hs, hm⟩ | ⟨hk, _, hs, hm⟩
  · have hB : dBlk d = d.pos.toNat / 128 := by unfold dBlk; rw [if_neg (by omega)]
    rw [hs, hm]
    have hbec : d.bec y = y &&& UInt8.ofNat d.val.toNat := by unfold Deed.bec; rw [if_neg (by omega)]
    by_cases hqb : dBlk d = q
    · rw [set_here _ _ _ _ hqb (by rw [hF.1]; exact hblk)]
      have hD : dBytes F d = (b.data.toList).set (d.pos.toNat % 128) (b.data.toList.getD (d.pos.toNat % 128) 0 &&& UInt8.ofNat d.val.toNat) := by
        unfold dBytes
        rw [if_neg (by omega), List.getD_eq_getElem?_getD, ← hB, hqb, hb]
        rfl
      simp only [Option.bind_some]
      rw [hD]
      by_cases hib : d.pos.toNat % 128 = i
      · rw [set_here _ _ _ _ hib (by omega), if_pos (by omega), hib, List.getD_eq_getElem?_getD, hy, hbec]
        show some (y ^^^ (y ^^^ (y &&& _))) = _
        rw [u8_x2]
        rfl
      · rw [set_there _ _ _ _ hib, if_neg (by omega), hy]
    · rw [set_there _ _ _ _ hqb, if_neg (by omega), hb]
      simp only [Option.bind_some, hy]
  · have hB : dBlk d = d.pos.toNat := by unfold dBlk; rw [if_pos hk]
    rw [hs, hm]
    have hbec : d.bec y = 255 := by unfold Deed.bec; rw [if_pos hk]
    by_cases hqb : dBlk d = q
    · rw [set_here _ _ _ _ hqb (by rw [hF.1]; exact hblk), if_pos (by omega), hbec]
      have hD : dBytes F d = List.replicate 128 255 := if_pos hk
      simp only [Option.bind_some]
      rw [hD]
      show some (y ^^^ (y ^^^ 255)) = _
      rw [u8_x1, List.getElem?_replicate, if_pos hi]
    · rw [set_there _ _ _ _ hqb, if_neg (by omega), hb]
      simp only [Option.bind_some, hy]

theorem turn_torn {n : Nat} {F : List ByteArray} (hF : GoodF n F) {d : Deed} (h : chkDeed (n * 128) d = 0) (p : ByteArray) : turnM (tornT d.kind p) d (joinM F) = joinM (tornB F d p) := by
  obtain ⟨h1, h2, h3, h4, h5⟩ := deed_right h
  have hblk := dBlk_lt h
  refine joinM_ext (tornB_good hF h p) (by rw [turnM_length, joinM_length hF.2.2.2, hF.1]) fun q i hq hi => ?_
  obtain ⟨b, y, hb, hy, hl⟩ := good_byte hF hq hi
  unfold turnM
  rw [turnK_at, joinM_at hF.2.2.2 q i hi, hb]
  simp only [Option.bind_some, hy, Option.map_some]
  unfold tornB
  rcases h5 with ⟨hk, hs, hm⟩ | ⟨hk, _, hs, hm⟩
  · have hB : dBlk d = d.pos.toNat / 128 := by unfold dBlk; rw [if_neg (by omega)]
    rw [hs, hm]
    have hbec : d.bec y = y &&& UInt8.ofNat d.val.toNat := by unfold Deed.bec; rw [if_neg (by omega)]
    by_cases hqb : dBlk d = q
    · rw [set_here _ _ _ _ hqb (by rw [hF.1]; exact hblk)]
      have hD : dBytes F d = (b.data.toList).set (d.pos.toNat % 128) (b.data.toList.getD (d.pos.toNat % 128) 0 &&& UInt8.ofNat d.val.toNat) := by
        unfold dBytes
        rw [if_neg (by omega), List.getD_eq_getElem?_getD, ← hB, hqb, hb]
        rfl
      have hT : tornL F d p = tornK d p b.data.toList 128 (dBytes F d) := by
        unfold tornL
        rw [List.getD_eq_getElem?_getD, hqb, hb]
        rfl
      simp only [Option.bind_some]
      show _ = (tornL F d p)[i]?
      rw [hT, tornK_at, hD, List.getD_eq_getElem?_getD (i := i), hy]
      by_cases hib : d.pos.toNat % 128 = i
      · rw [set_here _ _ _ _ hib (by omega), if_pos (by omega), hib, List.getD_eq_getElem?_getD, hy, hbec]
        simp only [Option.map_some, Option.getD_some]
        rw [if_pos hi, tornT_ne _ (by omega)]
        have hkb : keepB d p i = if p.size = 0 then 255 else p.data.toList.getD 0 0 := by
          unfold keepB
          by_cases hz : p.size = 0
          · rw [if_neg (fun h => h.2 hz), if_neg (by omega), if_pos hz]
          · rw [if_pos ⟨hk, hz⟩, if_neg hz]
        rw [hkb]
        show some (y ^^^ ((y ^^^ (y &&& _)) &&& ~~~ (if p.size = 0 then 255 else p.data.toList.getD 0 0))) = _
        rw [u8_x4]
      · rw [set_there _ _ _ _ hib, if_neg (by omega), hy]
        simp only [Option.map_some, Option.getD_some]
        rw [if_pos hi, u8_x5]
    · rw [set_there _ _ _ _ hqb, if_neg (by omega), hb]
      simp only [Option.bind_some, hy]
  · have hB : dBlk d = d.pos.toNat := by unfold dBlk; rw [if_pos hk]
    rw [hs, hm]
    have hbec : d.bec y = 255 := by unfold Deed.bec; rw [if_pos hk]
    by_cases hqb : dBlk d = q
    · rw [set_here _ _ _ _ hqb (by rw [hF.1]; exact hblk), if_pos (by omega), hbec]
      have hD : dBytes F d = List.replicate 128 255 := if_pos hk
      have hT : tornL F d p = tornK d p b.data.toList 128 (dBytes F d) := by
        unfold tornL
        rw [List.getD_eq_getElem?_getD, hqb, hb]
        rfl
      simp only [Option.bind_some]
      show _ = (tornL F d p)[i]?
      rw [hT, tornK_at, hD, List.getElem?_replicate, if_pos hi, List.getD_eq_getElem?_getD (i := i), hy]
      simp only [Option.map_some, Option.getD_some]
      rw [if_pos hi, hk]
      have hki : q * 128 + i - d.pos.toNat * 128 = i := by omega
      rw [hki]
      have hkb : keepB d p i = if i < p.size then 255 - p.data.toList.getD i 0 else 255 := by
        unfold keepB
        rw [if_neg (by omega)]
        by_cases hz : i < p.size
        · rw [if_pos ⟨hk, hz⟩, if_pos hz]
        · rw [if_neg (fun h => hz h.2), if_neg hz]
      rw [hkb]
      show some (y ^^^ (if i < p.size then (y ^^^ 255) &&& p.data.toList.getD i 0 else 0)) = _
      by_cases hz : i < p.size
      · rw [if_pos hz, if_pos hz, u8_x3]
      · rw [if_neg hz, if_neg hz, u8_x6, UInt8.xor_zero]
    · rw [set_there _ _ _ _ hqb, if_neg (by omega), hb]
      simp only [Option.bind_some, hy]

theorem do_done {n : Nat} : ∀ {l : List Deed} {F : List ByteArray}, GoodF n F → ∀ {e : Int}, e = 0 → ((doFrom allT (joinM F) l).2 = chkDs (n * 128) e l) ∧ (chkDs (n * 128) e l = 0 → (doFrom allT (joinM F) l).1 = joinM (doneAll F l) ∧ GoodF n (doneAll F l))
  | [], F, hF, e, he => by
    subst he
    exact ⟨rfl, fun _ => ⟨rfl, hF⟩⟩
  | d :: r, F, hF, e, he => by
    subst he
    rw [doFrom_cons, joinM_length hF.2.2.2, hF.1]
    unfold chkDs
    rw [if_pos rfl]
    by_cases hd : chkDeed (n * 128) d = 0
    · rw [if_neg (by omega), turn_done hF hd, hd]
      exact do_done (doneB_good hF hd) rfl
    · rw [if_pos hd, chkDs_wrong _ _ _ hd]
      exact ⟨rfl, fun h => absurd h hd⟩

theorem chg_done (F : List ByteArray) (l : List Deed) : (chgRes allT F l).2 = chkDeeds F l ∧ (chgRes allT F l).1 = if chkDeeds F l = 0 then doneAll F l else [] := by
  unfold chgRes chkDeeds
  by_cases h : chkFl F = 0
  · have hG := goodF_iff.1 h
    obtain ⟨h1, h2⟩ := do_done (l := l) hG h
    rw [if_neg (by omega)]
    by_cases hz : chkDs (F.length * 128) (chkFl F) l = 0
    · obtain ⟨h3, h4⟩ := h2 hz
      rw [if_neg (by rw [h1, hz]; omega), if_pos hz, h3]
      exact ⟨hz.symm, blocksM_join h4⟩
    · rw [if_pos (by rw [h1]; exact hz), if_neg hz, h1]
      exact ⟨rfl, rfl⟩
  · rw [if_pos h, chkDs_wrong _ _ _ h, if_neg h]
    exact ⟨rfl, rfl⟩
theorem chg_torn (F : List ByteArray) (d : Deed) (p : ByteArray) : (chgRes (tornT d.kind p) F [d]).2 = chkDeeds F [d] ∧ (chgRes (tornT d.kind p) F [d]).1 = if chkDeeds F [d] = 0 then tornB F d p else [] := by
  unfold chgRes chkDeeds
  by_cases h : chkFl F = 0
  · have hG := goodF_iff.1 h
    rw [if_neg (by omega)]
    unfold chkDs
    rw [if_pos h, doFrom_cons, joinM_length hG.2.2.2, doFrom_nil]
    by_cases hd : chkDeed (F.length * 128) d = 0
    · rw [if_neg (by omega : ¬ chkDeed (F.length * 128) d ≠ 0), turn_torn hG hd]
      rw [if_neg (by simp)]
      unfold chkDs
      rw [if_pos hd]
      exact ⟨hd.symm, blocksM_join (tornB_good hG hd p)⟩
    · rw [if_pos hd, if_pos hd]
      unfold chkDs
      rw [if_neg hd]
      exact ⟨rfl, rfl⟩
  · rw [if_pos h, chkDs_wrong _ _ _ h, if_neg h]
    exact ⟨rfl, rfl⟩
theorem newRes_ff (n : Nat) (h1 : 1 ≤ n) (h2 : n ≤ 32) : newRes n = List.replicate n (ffB 128) ∧ GoodF n (newRes n) := by
  have hG : GoodF n (List.replicate n (ffB 128)) := ⟨List.length_replicate, h1, h2, fun b hb => by rw [(List.mem_replicate.1 hb).2, ffB_size]⟩
  have e : joinM (List.replicate n (ffB 128)) = List.replicate (n * 128) 255 := by
    symm
    refine joinM_ext hG List.length_replicate fun q i hq hi => ?_
    rw [List.getElem?_replicate, if_pos (by omega), List.getElem?_replicate, if_pos hq]
    show _ = (ffB 128).data.toList[i]?
    unfold ffB
    show _ = (List.replicate 128 255)[i]?
    rw [List.getElem?_replicate, if_pos hi]
  have : newRes n = List.replicate n (ffB 128) := by
    unfold newRes
    rw [if_pos (by omega), Int.toNat_natCast, ← e, blocksM_join hG]
  exact ⟨this, by rw [this]; exact hG⟩

end Go.Proofs.Ytnomapbiklfciaf
