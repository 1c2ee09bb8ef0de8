/- Texts that are laid together. -/
import Derived.Test.YtppmihnbpmkbnadGreatMrgM
import Derived.Test.YtppmihnbpmkbnadGreatMrgN
import Derived.Test.YtppmihnbpmkbnadGreatMrgI
import Derived.Test.YtppmihnbpmkbnadGreatMrgJ
import Derived.Test.YtppmihnbpmkbnadGreatMrgG
import Derived.Lib.Repeat
import Derived.Test.YtppmihnbpmkbnadGreatMrgA
import Derived.Shelf.Strings.Repeat
import Derived.Ground.NamesProg
import Derived.Test.YtppmihnbpmkbnadGreatProg

/- The contract of graph.Order. -/
namespace Go.Proofs.YtppmihnbpmkbnadGreat
open Go.RowKit Go.PlainAid

set_option maxRecDepth 100000

def leN (a b : Mod) : Bool := decide (a.name.data.toList ≤ b.name.data.toList)
def risen (L : List Plc) : List Mod := (L.map (·.mod)).mergeSort leN
theorem risen_perm (L : List Plc) : (risen L).Perm (L.map (·.mod)) := List.mergeSort_perm _ _
theorem risen_up (L : List Plc) : (risen L).Pairwise fun a b => leN a b = true := by
  refine List.pairwise_mergeSort (fun a b c h1 h2 => ?_) (fun a b => ?_) _
  · simp only [leN, decide_eq_true_eq] at *; exact List.le_trans h1 h2
  · simp only [leN, Bool.or_eq_true, decide_eq_true_eq]; exact List.le_total _ _
theorem risen_rising {L : List Plc} (hd : (L.map (·.mod.name)).Nodup) : Rising ((risen L).map (·.name)) := by
  have h2 : ((risen L).map (·.name)).Nodup := by
    have := ((risen_perm L).map (·.name)).nodup_iff
    rw [List.map_map] at this
    exact this.2 hd
  refine List.pairwise_map.2 (((risen_up L).and (List.pairwise_map.1 h2)).imp fun {a b} h => ?_)
  obtain ⟨h3, h4⟩ := h
  simp only [leN, decide_eq_true_eq] at h3
  exact Classical.byContradiction fun h5 => h4 (bytes_ext (List.le_antisymm h3 (List.not_lt.1 h5)))
theorem risen_of {l rs : List PV} (hp : rs.Perm l) (hu : rs.Pairwise UpName) (hd : (l.map (·.mod.name)).Nodup) : rs.map (·.mod) = risen (l.map PV.plc) := by
  have hmm : (l.map PV.plc).map (·.mod) = l.map (·.mod) := by rw [List.map_map]; rfl
  have hq : (rs.map (·.mod)).Perm (risen (l.map PV.plc)) := by
    have := risen_perm (l.map PV.plc)
    rw [hmm] at this
    exact (hp.map _).trans this.symm
  have hd2 : ((rs.map (·.mod)).map (·.name)).Nodup := by
    rw [List.map_map]
    exact ((hp.map (fun x : PV => x.mod.name)).nodup_iff).2 hd
  refine List.Perm.eq_of_pairwise (le := fun a b => leN a b = true) (fun a b ha hb h1 h2 => ?_) ?_ (risen_up _) hq
  · simp only [leN, decide_eq_true_eq] at h1 h2
    exact nodup_names hd2 ha (hq.mem_iff.2 hb) (bytes_ext (List.le_antisymm h1 h2))
  · refine List.pairwise_map.2 (hu.imp fun {a b} h => ?_)
    simp only [leN, decide_eq_true_eq]
    exact List.not_lt.1 h

def ordOf (L : List Plc) : List ByteArray × Int := if chkGraph L ≠ 0 then ([], chkGraph L) else ordRes (risen L)
theorem ordOf_cases (L : List Plc) : (chkGraph L ≠ 0 ∧ ordOf L = ([], chkGraph L)) ∨ (chkGraph L = 0 ∧ ordOf L = ordRes (risen L)) := by
  unfold ordOf
  by_cases h : chkGraph L = 0
  · exact .inr ⟨h, by rw [if_neg (by omega)]⟩
  · exact .inl ⟨h, by rw [if_pos h]⟩

set_option maxHeartbeats 2000000 in
theorem order_any (l : List PV) (v : Value) (w : World) (hrow : IsPlcs w.heap.size w v l) (hfit : ∀ x ∈ l, x.mod.fits) :
    Calls Tryz.prog 25 #[v] w fun e w' => (∃ r, e = .returned (.tuple #[r, .int .i64 (ordOf (l.map PV.plc)).2]) ∧ RowOf 1 strCell w'.heap.size w' r (ordOf (l.map PV.plc)).1 ∧ CapOk r) ∧ Below w.heap.size w w' := by
  have HW : Hid (Calls Tryz.prog 59 #[v] w fun e w' => e = .returned (.int .i64 (chkGraph (l.map PV.plc))) ∧ Below w.heap.size w w') := graphWrong_any l v w hrow hfit
  have HR : Hid (l.length ≤ 8 → ∀ W, Below w.heap.size w W → Calls Tryz.prog 61 #[v] W fun e w' => (∃ r rs, e = .returned r ∧ RowOf 7 PV.cell w'.heap.size w' r rs ∧ rs.Perm l ∧ rs.Pairwise UpName) ∧ Below W.heap.size W w') := fun h8 W hb => rising_any l v W ((hrow.below hb).more hb.size) h8
  have HO : Hid (∀ W rs r, Below w.heap.size w W → rs.Perm l → RowOf 7 PV.cell W.heap.size W r rs → l.length ≤ 8 → Calls Tryz.prog 60 #[r] W fun e w' => (∃ v, e = .returned (.tuple #[v, .int .i64 (ordRes (rs.map (·.mod))).2]) ∧ RowOf 1 strCell w'.heap.size w' v (ordRes (rs.map (·.mod))).1 ∧ CapOk v) ∧ Below W.heap.size W w') :=
    fun W rs r hb hp hr h8 => ordered_any rs r W hr (fun x hx => ((hrow.2 x (hp.mem_iff.1 hx)).below hb).more hb.size) (fun x hx => hfit x (hp.mem_iff.1 hx)) (by rw [hp.length_eq]; exact h8)
  have key := ordOf_cases (l.map PV.plc)
  have HZ : Hid (chkGraph (l.map PV.plc) = 0 → l.length ≤ 8 ∧ ∀ rs : List PV, rs.Perm l → rs.Pairwise UpName → rs.map (·.mod) = risen (l.map PV.plc)) := fun h0 => by
    have h1 := chkGraph_zero.1 h0
    refine ⟨by simpa using h1.1, fun rs hp hu => risen_of hp hu ?_⟩
    have := h1.2.2
    rw [List.map_map] at this
    exact this
  obtain ⟨⟨a, cap, rfl, _, _⟩, _⟩ := hrow
  generalize chkGraph (l.map PV.plc) = cg at *
  generalize ordOf (l.map PV.plc) = OO at *
  generalize risen (l.map PV.plc) = RR at *
  clear hfit
  go_enter Tryz.func25, Tryz.ntmps25
  go_wp2_with fail
  refine HW.out.mono ?_
  rintro e w2 ⟨rfl, B2⟩
  clear HW
  rcases key with ⟨h0, rfl⟩ | ⟨rfl, rfl⟩
  · have h0' : (cg != 0) = true := by simpa using h0
    clear h0
    go_wp2
    go_ret2
    exact ⟨⟨_, rfl, ⟨none, 0, rfl, by simp, .inl rfl⟩, capNil⟩, B2⟩
  · obtain ⟨h8, hrs⟩ := HZ.out (by first | rfl | trivial)
    have HRS : Hid (∀ rs : List PV, rs.Perm l → rs.Pairwise UpName → rs.map (·.mod) = RR) := hrs
    clear hrs HZ
    go_wp2_with fail
    refine (HR.out h8 _ B2).mono ?_
    rintro e w3 ⟨⟨r, rs, rfl, hr, hp, hu⟩, b3⟩
    have B3 := B2.trans (b3.mono B2.size)
    have HC := HO.out w3 rs r B3 hp hr h8
    rw [HRS.out rs hp hu] at HC
    have HCC : Hid (Calls Tryz.prog 60 #[r] w3 fun e w' => (∃ v, e = .returned (.tuple #[v, .int .i64 (ordRes RR).2]) ∧ RowOf 1 strCell w'.heap.size w' v (ordRes RR).1 ∧ CapOk v) ∧ Below w3.heap.size w3 w') := HC
    clear HC HO HR hp hu hr HRS b3
    go_wp2_with fail
    refine HCC.out.mono ?_
    rintro e w4 ⟨⟨u, rfl, hu, hcu⟩, b4⟩
    have HU : Hid (RowOf 1 strCell w4.heap.size w4 u (ordRes RR).1 ∧ CapOk u) := ⟨hu, hcu⟩
    have B4 := B3.trans (b4.mono B3.size)
    clear HCC hu hcu b4
    go_wp2
    go_ret2
    exact ⟨⟨_, rfl, HU.out.1, HU.out.2⟩, B4⟩

end Go.Proofs.YtppmihnbpmkbnadGreat

/- Images and areas, as data. -/
namespace Go.Proofs.YtppmihnbpmkbnadGreat
open Go.RowKit Go.PlainAid

theorem bytes_app (a b : ByteArray) : (a ++ b).data.toList = a.data.toList ++ b.data.toList := by
  rw [ByteArray.data_append, Array.toList_append]
theorem size_list (s : ByteArray) : s.size = s.data.toList.length := by
  rw [Array.length_toList]; rfl
theorem bytes_eq {a b : ByteArray} (h : a.data.toList = b.data.toList) : a = b := by
  obtain ⟨⟨a⟩⟩ := a
  obtain ⟨⟨b⟩⟩ := b
  simp at h
  rw [h]

/-- So many bytes 255. -/
def blanks (n : Nat) : ByteArray := ⟨(List.replicate n (255 : UInt8)).toArray⟩
theorem blanks_list (n : Nat) : (blanks n).data.toList = List.replicate n (255 : UInt8) := by simp [blanks]
theorem blanks_size (n : Nat) : (blanks n).size = n := by rw [size_list, blanks_list, List.length_replicate]
theorem blanks_zero : blanks 0 = ⟨#[]⟩ := rfl
theorem repeat_blank (c : Nat) : (⟨(Lib.repeatL [(255 : UInt8)] c).toArray⟩ : ByteArray) = blanks c := by
  have h : ∀ c, Lib.repeatL [(255 : UInt8)] c = List.replicate c 255 := by
    intro c
    induction c with
    | zero => rfl
    | succ n ih => rw [Lib.repeatL, ih]; rfl
  rw [h]; rfl

/-- Bytes, with bytes 255 behind them up to so many. -/
def fillTo (s : ByteArray) (n : Nat) : ByteArray := s ++ blanks (n - s.size)
theorem fillTo_size {s : ByteArray} {n : Nat} (h : s.size ≤ n) : (fillTo s n).size = n := by
  unfold fillTo
  rw [ByteArray.size_append, blanks_size]
  omega
theorem fillTo_done {s : ByteArray} {n : Nat} (h : n ≤ s.size) : fillTo s n = s := by
  unfold fillTo
  rw [show n - s.size = 0 by omega]
  refine bytes_eq ?_
  rw [bytes_app, blanks_list]
  simp
theorem fillTo_step {s : ByteArray} {n : Nat} (h : s.size < n) : fillTo (s ++ ⟨#[255]⟩) n = fillTo s n := by
  unfold fillTo
  refine bytes_eq ?_
  rw [bytes_app, bytes_app, bytes_app, blanks_list, blanks_list, ByteArray.size_append]
  obtain ⟨k, hk⟩ : ∃ k, n - s.size = k + 1 := ⟨n - s.size - 1, by omega⟩
  rw [show n - (s.size + ByteArray.size ⟨#[255]⟩) = k from by
    have : ByteArray.size ⟨#[255]⟩ = 1 := rfl
    omega, hk, List.replicate_succ]
  simp

/-- The address that a patch names. -/
def symOf (ads : List Int) (beg : Int) (p : Pat) : Int := if 0 ≤ p.sym then (ads[p.sym.toNat]?).getD 0 else beg
/-- A text with patches, one by one, or why not. -/
def patd (ads : List Int) (beg : Int) : ByteArray → List Pat → ByteArray × Int
  | s, [] => (s, 0)
  | s, p :: r => if appErr s.size p (symOf ads beg p) beg ≠ 0 then (⟨#[]⟩, appErr s.size p (symOf ads beg p) beg) else patd ads beg (appStr s p (symOf ads beg p) beg) r
theorem appStr_size {s : ByteArray} {p : Pat} {sym base : Int} (h : appErr s.size p sym base = 0) : (appStr s p sym base).size = s.size := by
  unfold appStr
  rw [if_pos h, putS_size]
theorem patd_size {ads : List Int} {beg : Int} : ∀ {l : List Pat} {s : ByteArray}, (patd ads beg s l).2 = 0 → (patd ads beg s l).1.size = s.size
  | [], s, _ => rfl
  | p :: r, s, h => by
    unfold patd at h ⊢
    by_cases h0 : appErr s.size p (symOf ads beg p) beg = 0
    · rw [if_neg (by omega)] at h ⊢
      rw [patd_size h, appStr_size h0]
    · rw [if_pos h0] at h
      exact absurd h h0

/-- The image of a placed module, or why not. -/
def imgRes (K : Ker) (L : List Plc) (p : Plc) : ByteArray × Int :=
  if (allRes K L p.mod).2 ≠ 0 then (⟨#[]⟩, (allRes K L p.mod).2)
  else if (patd (allRes K L p.mod).1 (4096 + p.first * 64) p.mod.text p.mod.pats).2 ≠ 0 then (⟨#[]⟩, (patd (allRes K L p.mod).1 (4096 + p.first * 64) p.mod.text p.mod.pats).2)
  else (fillTo (patd (allRes K L p.mod).1 (4096 + p.first * 64) p.mod.text p.mod.pats).1 (64 * szM p.mod), 0)
theorem imgRes_cases (K : Ker) (L : List Plc) (p : Plc) :
    ((allRes K L p.mod).2 ≠ 0 ∧ imgRes K L p = (⟨#[]⟩, (allRes K L p.mod).2)) ∨
    ((allRes K L p.mod).2 = 0 ∧ (patd (allRes K L p.mod).1 (4096 + p.first * 64) p.mod.text p.mod.pats).2 ≠ 0 ∧ imgRes K L p = (⟨#[]⟩, (patd (allRes K L p.mod).1 (4096 + p.first * 64) p.mod.text p.mod.pats).2)) ∨
    ((allRes K L p.mod).2 = 0 ∧ (patd (allRes K L p.mod).1 (4096 + p.first * 64) p.mod.text p.mod.pats).2 = 0 ∧ imgRes K L p = (fillTo (patd (allRes K L p.mod).1 (4096 + p.first * 64) p.mod.text p.mod.pats).1 (64 * szM p.mod), 0)) := by
  unfold imgRes
  by_cases h1 : (allRes K L p.mod).2 = 0
  · by_cases h2 : (patd (allRes K L p.mod).1 (4096 + p.first * 64) p.mod.text p.mod.pats).2 = 0
    · exact .inr (.inr ⟨h1, h2, by rw [if_neg (by omega), if_neg (by omega)]⟩)
    · exact .inr (.inl ⟨h1, h2, by rw [if_neg (by omega), if_pos h2]⟩)
  · exact .inl ⟨h1, by rw [if_pos h1]⟩
theorem szM_le (m : Mod) : m.text.size ≤ 64 * szM m := by unfold szM; omega
theorem imgRes_size {K : Ker} {L : List Plc} {p : Plc} (h : (imgRes K L p).2 = 0) : (imgRes K L p).1.size = 64 * szM p.mod := by
  rcases imgRes_cases K L p with ⟨h1, e⟩ | ⟨h1, h2, e⟩ | ⟨h1, h2, e⟩
  · rw [e] at h; exact absurd h h1
  · rw [e] at h; exact absurd h h2
  · rw [e]
    exact fillTo_size (by rw [patd_size h2]; exact szM_le _)

/-- The images one behind the other, or why not. -/
def areaFrom (K : Ker) (L : List Plc) : ByteArray → List Plc → ByteArray × Int
  | s, [] => (fillTo s 1024, 0)
  | s, p :: r => if (imgRes K L p).2 ≠ 0 then (⟨#[]⟩, (imgRes K L p).2) else areaFrom K L (fillTo s (64 * p.first.toNat) ++ (imgRes K L p).1) r

/-- What is wrong with a kernel and with placed modules, but for what they ask. -/
def chkLink (K : Ker) (L : List Plc) : Int := if chkKer K ≠ 0 then chkKer K else if chkReg L ≠ 0 then chkReg L else if twiceFrom [] L = true then 6 else 0
theorem chkLink_cases (K : Ker) (L : List Plc) : (chkKer K ≠ 0 ∧ chkLink K L = chkKer K) ∨ (chkKer K = 0 ∧ chkReg L ≠ 0 ∧ chkLink K L = chkReg L) ∨ (chkKer K = 0 ∧ chkReg L = 0 ∧ twiceFrom [] L = true ∧ chkLink K L = 6) ∨ (chkKer K = 0 ∧ chkReg L = 0 ∧ twiceFrom [] L = false ∧ chkLink K L = 0) := by
  unfold chkLink
  by_cases h1 : chkKer K = 0
  · by_cases h2 : chkReg L = 0
    · cases h3 : twiceFrom [] L
      · exact .inr (.inr (.inr ⟨h1, h2, rfl, by rw [if_neg (by omega), if_neg (by omega), if_neg (by decide)]⟩))
      · exact .inr (.inr (.inl ⟨h1, h2, rfl, by rw [if_neg (by omega), if_neg (by omega), if_pos rfl]⟩))
    · exact .inr (.inl ⟨h1, h2, by rw [if_neg (by omega), if_pos h2]⟩)
  · exact .inl ⟨h1, by rw [if_pos h1]⟩
theorem chkLink_zero {K : Ker} {L : List Plc} (h : chkLink K L = 0) : chkKer K = 0 ∧ chkReg L = 0 ∧ twiceFrom [] L = false := by
  rcases chkLink_cases K L with ⟨h1, e⟩ | ⟨_, h1, e⟩ | ⟨_, _, _, e⟩ | ⟨h1, h2, h3, _⟩
  · exact absurd (e ▸ h) h1
  · exact absurd (e ▸ h) h1
  · rw [e] at h; exact absurd h (by decide)
  · exact ⟨h1, h2, h3⟩

/-- Where modules lie behind one another they can be asked for. -/
theorem reg_find {K : Ker} {L : List Plc} (hK : chkKer K = 0) (h : chkReg L = 0) : chkFind K L = 0 := by
  obtain ⟨h1, h2, h3⟩ := chkReg_zero.1 h
  unfold chkFind
  rw [if_neg (by omega)]
  unfold chkPlaced
  rw [if_neg (by omega), chkPls_by]
  refine chkBy_zero.2 fun p hp => ⟨h2 p hp, ?_⟩
  have := okPl_first h3 p hp
  have hs := szM_bd (h2 p hp)
  unfold farErr
  rw [betw_true (by omega) (by omega), if_neg (by decide)]
theorem link_find {K : Ker} {L : List Plc} (h : chkLink K L = 0) : chkFind K L = 0 := reg_find (chkLink_zero h).1 (chkLink_zero h).2.1

def imageOf (K : Ker) (L : List Plc) (name : ByteArray) : ByteArray × Int :=
  if chkLink K L ≠ 0 then (⟨#[]⟩, chkLink K L) else match L.find? fun p => p.mod.name == name with
  | none => (⟨#[]⟩, 5)
  | some p => imgRes K L p
def areaOf (K : Ker) (L : List Plc) : ByteArray × Int := if chkLink K L ≠ 0 then (⟨#[]⟩, chkLink K L) else areaFrom K L ⟨#[]⟩ L

/-- What Order tells of modules that lie behind one another. -/
theorem lnOrd_err {L : List Plc} (h : chkReg L = 0) : (twiceFrom [] L = true ∧ (ordOf L).2 = 6) ∨ (twiceFrom [] L = false ∧ chkGraph L = 0 ∧ ((ordOf L).2 = 0 ∨ (ordOf L).2 = 4)) := by
  obtain ⟨h1, h2, _⟩ := chkReg_zero.1 h
  rcases chkGraph_cases L with ⟨hp, _⟩ | ⟨_, _, e⟩
  · refine absurd ?_ hp
    unfold plainErr
    rw [if_neg (by omega)]
    exact chkBy_zero.2 fun p hp => ⟨h2 p hp, rfl⟩
  · cases ht : twiceFrom [] L
    · rw [ht, if_neg (by decide)] at e
      refine .inr ⟨rfl, e, ?_⟩
      unfold ordOf
      rw [if_neg (by omega)]
      unfold ordRes
      split
      · exact .inr rfl
      · exact .inl rfl
    · rw [ht, if_pos rfl] at e
      refine .inl ⟨rfl, ?_⟩
      unfold ordOf
      rw [if_pos (by omega), e]

end Go.Proofs.YtppmihnbpmkbnadGreat

/- Where images lie in the area, byte by byte, as data; and what an image does not hang on. -/
namespace Go.Proofs.YtppmihnbpmkbnadGreat
open Go.RowKit Go.PlainAid

theorem bt_app_left {a b : ByteArray} {i : Nat} (h : i < a.size) : bt (a ++ b) i = bt a i := by
  rw [bt_list, bt_list, bytes_app, List.getElem?_append_left (by rw [← size_list]; exact h)]
theorem bt_app_right {a b : ByteArray} {i : Nat} (h : a.size ≤ i) : bt (a ++ b) i = bt b (i - a.size) := by
  rw [bt_list, bt_list, bytes_app, List.getElem?_append_right (by rw [← size_list]; exact h), ← size_list]
theorem bt_blanks {n i : Nat} (h : i < n) : bt (blanks n) i = 255 := by
  rw [bt_list, blanks_list, List.getElem?_replicate, if_pos h]
  rfl
theorem bt_fill_left {s : ByteArray} {n i : Nat} (h : i < s.size) : bt (fillTo s n) i = bt s i := bt_app_left h
theorem bt_fill_right {s : ByteArray} {n i : Nat} (h : s.size ≤ i) (hn : i < n) : bt (fillTo s n) i = 255 := by
  unfold fillTo
  rw [bt_app_right h, bt_blanks (by omega)]

/-- Is a byte none of those that a patch is put into? -/
def clearOf (p : Pat) (i : Nat) : Prop := (i : Int) < p.pos ∨ p.pos + width p.kind ≤ i
theorem width_nonneg (k : Int) : 0 ≤ width k := by
  unfold width
  split
  · omega
  · split
    · omega
    · split <;> omega
theorem app_out {s : ByteArray} {p : Pat} {sym base : Int} (h : appErr s.size p sym base = 0) {i : Nat} (hi : clearOf p i) : bt (appStr s p sym base) i = bt s i := by
  have hw := width_nonneg p.kind
  have hp : 0 ≤ p.pos ∧ p.pos + width p.kind ≤ s.size := by
    have h' := h
    unfold appErr at h'
    split at h'
    · omega
    · split at h'
      · omega
      · rename_i _ hb
        simp only [Bool.not_eq_false, Bool.and_eq_true, betw_iff] at hb
        omega
  unfold appStr
  rw [if_pos h]
  unfold clearOf at hi
  exact bt_put_out _ _ _ _ _ (by omega) (by omega)
theorem patd_out {ads : List Int} {beg : Int} : ∀ {l : List Pat} {s : ByteArray}, (patd ads beg s l).2 = 0 → ∀ {i : Nat}, (∀ p ∈ l, clearOf p i) → bt (patd ads beg s l).1 i = bt s i
  | [], s, _, i, _ => rfl
  | p :: r, s, h, i, hi => by
    unfold patd at h ⊢
    by_cases h0 : appErr s.size p (symOf ads beg p) beg = 0
    · rw [if_neg (by omega)] at h ⊢
      rw [patd_out h (fun q hq => hi q (List.mem_cons_of_mem _ hq)), app_out h0 (hi p (by simp))]
    · rw [if_pos h0] at h
      exact absurd h h0
theorem img_byte {K : Ker} {L : List Plc} {p : Plc} (h : (imgRes K L p).2 = 0) : (imgRes K L p).1.size = 64 * szM p.mod ∧ p.mod.text.size ≤ 64 * szM p.mod ∧
    (∀ n, n < 64 * szM p.mod → p.mod.text.size ≤ n → bt (imgRes K L p).1 n = 255) ∧ (∀ n, n < p.mod.text.size → (∀ q ∈ p.mod.pats, clearOf q n) → bt (imgRes K L p).1 n = bt p.mod.text n) := by
  refine ⟨imgRes_size h, szM_le _, ?_⟩
  rcases imgRes_cases K L p with ⟨h1, e⟩ | ⟨h1, h2, e⟩ | ⟨h1, h2, e⟩
  · rw [e] at h; exact absurd h h1
  · rw [e] at h; exact absurd h h2
  · rw [e]
    have hs := patd_size h2
    refine ⟨fun n hn ht => bt_fill_right (by omega) hn, fun n hn hq => ?_⟩
    rw [bt_fill_left (by omega), patd_out h2 hq]

theorem area_byte {K : Ker} {L : List Plc} : ∀ (l : List Plc) (s : ByteArray) (e : Nat), okPl e l → s.size ≤ 64 * e → (areaFrom K L s l).2 = 0 →
    (areaFrom K L s l).1.size = 1024 ∧ (∀ i, i < s.size → bt (areaFrom K L s l).1 i = bt s i) ∧
    (∀ p ∈ l, (imgRes K L p).2 = 0 ∧ ∀ n, n < 64 * szM p.mod → bt (areaFrom K L s l).1 (64 * p.first.toNat + n) = bt (imgRes K L p).1 n) ∧
    (∀ i, s.size ≤ i → i < 1024 → (∀ p ∈ l, i < 64 * p.first.toNat ∨ 64 * p.first.toNat + 64 * szM p.mod ≤ i) → bt (areaFrom K L s l).1 i = 255)
  | [], s, e, hok, hs, h => by
    have he : (e : Int) ≤ 16 := hok
    have hn : areaFrom K L s [] = (fillTo s 1024, 0) := rfl
    rw [hn]
    exact ⟨fillTo_size (by omega), fun i hi => bt_fill_left hi, fun p hp => absurd hp (by simp), fun i h1 h2 _ => bt_fill_right h1 h2⟩
  | p :: r, s, e, hok, hs, h => by
    obtain ⟨p1, p2, p3, p4⟩ := hok
    have hst : areaFrom K L s (p :: r) = if (imgRes K L p).2 ≠ 0 then (⟨#[]⟩, (imgRes K L p).2) else areaFrom K L (fillTo s (64 * p.first.toNat) ++ (imgRes K L p).1) r := rfl
    by_cases h0 : (imgRes K L p).2 = 0
    · rw [if_neg (by omega)] at hst
      rw [hst] at h ⊢
      have hsz := imgRes_size h0
      have hfs : (fillTo s (64 * p.first.toNat)).size = 64 * p.first.toNat := fillTo_size (by omega)
      have hap : (fillTo s (64 * p.first.toNat) ++ (imgRes K L p).1).size = 64 * (p.first.toNat + szM p.mod) := by rw [ByteArray.size_append, hfs, hsz]; omega
      obtain ⟨g1, g2, g3, g4⟩ := area_byte r _ (p.first.toNat + szM p.mod) (by rw [show ((p.first.toNat + szM p.mod : Nat) : Int) = p.first + szM p.mod by omega]; exact p4) (by omega) h
      refine ⟨g1, fun i hi => ?_, fun q hq => ?_, fun i h1 h2 h3 => ?_⟩
      · rw [g2 i (by omega), bt_app_left (by omega), bt_fill_left hi]
      · rcases List.mem_cons.1 hq with rfl | hq
        · refine ⟨h0, fun n hn => ?_⟩
          rw [g2 _ (by omega), bt_app_right (by omega), hfs, Nat.add_sub_cancel_left]
        · exact g3 q hq
      · by_cases hi : i < 64 * (p.first.toNat + szM p.mod)
        · have := h3 p (by simp)
          rw [g2 i (by omega), bt_app_left (by omega), bt_fill_right h1 (by omega)]
        · exact g4 i (by omega) h2 (fun q hq => h3 q (List.mem_cons_of_mem _ hq))
    · rw [hst, if_pos h0] at h
      exact absurd h h0

theorem find_nodup : ∀ {L : List Plc}, (L.map (·.mod.name)).Nodup → ∀ {p : Plc}, p ∈ L → L.find? (fun q => q.mod.name == p.mod.name) = some p
  | [], _, p, hp => absurd hp (by simp)
  | x :: l, h, p, hp => by
    rw [List.map_cons, List.nodup_cons] at h
    rcases List.mem_cons.1 hp with rfl | hp
    · have hb : (p.mod.name == p.mod.name) = true := (Go.MapKept.bytes_beq _ _).2 rfl
      exact List.find?_cons_of_pos (p := fun q : Plc => q.mod.name == p.mod.name) hb
    · have hne : x.mod.name ≠ p.mod.name := fun e => h.1 (e ▸ List.mem_map.2 ⟨p, hp, rfl⟩)
      have hb : ¬ (x.mod.name == p.mod.name) = true := fun e => hne ((Go.MapKept.bytes_beq _ _).1 e)
      exact (List.find?_cons_of_neg (p := fun q : Plc => q.mod.name == p.mod.name) hb).trans (find_nodup h.2 hp)
/-- The image of one that is there. -/
theorem imageOf_at {K : Ker} {L : List Plc} (h : chkLink K L = 0) {p : Plc} (hp : p ∈ L) : imageOf K L p.mod.name = imgRes K L p := by
  have ht := twice_nodup L [] (by simp)
  rw [List.nil_append] at ht
  unfold imageOf
  rw [if_neg (by omega), find_nodup (ht.1 (chkLink_zero h).2.2) hp]
theorem areaOf_zero {K : Ker} {L : List Plc} (h : (areaOf K L).2 = 0) : chkLink K L = 0 ∧ areaOf K L = areaFrom K L ⟨#[]⟩ L ∧ (areaFrom K L ⟨#[]⟩ L).2 = 0 := by
  unfold areaOf at h ⊢
  by_cases h0 : chkLink K L = 0
  · rw [if_neg (by omega)] at h ⊢
    exact ⟨h0, rfl, h⟩
  · rw [if_pos h0] at h
    exact absurd h h0
theorem areaOf_bad {K : Ker} {L : List Plc} (h : (areaOf K L).2 ≠ 0) : (areaOf K L).1 = ⟨#[]⟩ := by
  have key : ∀ l s, (areaFrom K L s l).2 ≠ 0 → (areaFrom K L s l).1 = ⟨#[]⟩ := by
    intro l
    induction l with
    | nil => intro s h; exact absurd rfl h
    | cons p r ih =>
      intro s h
      have hst : areaFrom K L s (p :: r) = if (imgRes K L p).2 ≠ 0 then (⟨#[]⟩, (imgRes K L p).2) else areaFrom K L (fillTo s (64 * p.first.toNat) ++ (imgRes K L p).1) r := rfl
      rw [hst] at h ⊢
      by_cases h0 : (imgRes K L p).2 = 0
      · rw [if_neg (by omega)] at h ⊢
        exact ih _ h
      · rw [if_pos h0]
  unfold areaOf at h ⊢
  by_cases h0 : chkLink K L = 0
  · rw [if_neg (by omega)] at h ⊢
    exact key _ _ h
  · rw [if_pos h0]

/-- All that is asked of modules but for their texts' bytes. -/
def blurM (m : Mod) : Mod := ⟨m.name, m.major, m.minor, blanks m.text.size, m.exps, m.imps, m.pats⟩
def blur (p : Plc) : Plc := ⟨blurM p.mod, p.first⟩
theorem chkMod_blur (m : Mod) : chkMod (blurM m) = chkMod m := by
  unfold chkMod blurM
  dsimp only
  rw [blanks_size]
theorem szM_blur (m : Mod) : szM (blurM m) = szM m := by
  unfold szM blurM
  dsimp only
  rw [blanks_size]
theorem chkBy_blur {q : Plc → Int} (hq : ∀ p, q (blur p) = q p) : ∀ L : List Plc, chkBy q (L.map blur) = chkBy q L
  | [] => rfl
  | p :: l => by
    have hs : ∀ (p : Plc) l, chkBy q (p :: l) = if chkMod p.mod ≠ 0 then chkMod p.mod else if q p ≠ 0 then q p else chkBy q l := fun _ _ => rfl
    rw [List.map_cons, hs, hs, hq, chkBy_blur hq l]
    have hm : chkMod (blur p).mod = chkMod p.mod := chkMod_blur p.mod
    rw [hm]
theorem behind_blur : ∀ (L : List Plc) (e : Int), behind e (L.map blur) = behind e L
  | [], _ => rfl
  | p :: l, e => by
    have hs : ∀ (p : Plc) l e, behind e (p :: l) = (!decide (p.first < e) && behind (p.first + szM p.mod) l) := fun _ _ _ => rfl
    rw [List.map_cons, hs, hs, behind_blur l]
    show (!decide (p.first < e) && behind (p.first + szM (blurM p.mod)) l) = _
    rw [szM_blur]
theorem chkReg_blur (L : List Plc) : chkReg (L.map blur) = chkReg L := by
  unfold chkReg
  rw [chkBy_blur (fun p => by
    unfold outErr
    show (if p.first < 0 ∨ 16 - (szM (blurM p.mod) : Int) < p.first then (3 : Int) else 0) = _
    rw [szM_blur]) L, behind_blur, List.length_map]
theorem twice_blur : ∀ (L : List Plc) (met : List ByteArray), twiceFrom met (L.map blur) = twiceFrom met L
  | [], _ => rfl
  | p :: l, met => by
    have hs : ∀ (p : Plc) l met, twiceFrom met (p :: l) = ((met.any fun y => y == p.mod.name) || twiceFrom (met ++ [p.mod.name]) l) := fun _ _ _ => rfl
    rw [List.map_cons, hs, hs, twice_blur l]
    rfl
theorem chkLink_blur (K : Ker) (L : List Plc) : chkLink K (L.map blur) = chkLink K L := by
  unfold chkLink
  rw [chkReg_blur, twice_blur]
theorem chkFind_blur (K : Ker) (L : List Plc) : chkFind K (L.map blur) = chkFind K L := by
  unfold chkFind chkPlaced
  rw [chkPls_by, chkPls_by, chkBy_blur (fun _ => rfl) L, List.length_map]
theorem tgt_blur (K : Ker) (L : List Plc) (n : ByteArray) : tgtOf K (L.map blur) n = tgtOf K L n := by
  unfold tgtOf
  rw [List.find?_map]
  have : ((fun p : Plc => p.mod.name == n) ∘ blur) = fun p : Plc => p.mod.name == n := rfl
  rw [this]
  cases L.find? fun p : Plc => p.mod.name == n <;> rfl
theorem addr_blur (K : Ker) (L : List Plc) (i : Imp) : addrOf K (L.map blur) i = addrOf K L i := by
  unfold addrOf
  rw [tgt_blur]
theorem addrs_blur (K : Ker) (L : List Plc) : ∀ (is : List Imp) (acc : List Int), addrsFrom K (L.map blur) acc is = addrsFrom K L acc is
  | [], _ => rfl
  | i :: r, acc => by
    have hs : ∀ L, addrsFrom K L acc (i :: r) = if (addrOf K L i).2 ≠ 0 then ([], (addrOf K L i).2) else addrsFrom K L (acc ++ [(addrOf K L i).1]) r := fun _ => rfl
    rw [hs, hs, addr_blur, addrs_blur K L r]
theorem all_blur (K : Ker) (L : List Plc) (m : Mod) : allRes K (L.map blur) m = allRes K L m := by
  unfold allRes
  rw [chkFind_blur, addrs_blur]
theorem img_blur (K : Ker) (L : List Plc) (p : Plc) : imgRes K (L.map blur) p = imgRes K L p := by
  unfold imgRes
  rw [all_blur]
/-- Another text of the same size changes no image of another one. -/
theorem image_alone (K : Ker) {L L' : List Plc} (hb : L'.map blur = L.map blur) {p : Plc} (h1 : p ∈ L) (h2 : p ∈ L') : imageOf K L' p.mod.name = imageOf K L p.mod.name := by
  have hc : chkLink K L' = chkLink K L := by rw [← chkLink_blur, hb, chkLink_blur]
  by_cases h0 : chkLink K L = 0
  · rw [imageOf_at h0 h1, imageOf_at (hc.trans h0) h2, ← img_blur, hb, img_blur]
  · unfold imageOf
    rw [hc, if_pos h0, if_pos h0]

end Go.Proofs.YtppmihnbpmkbnadGreat

/- The contract of strings.Repeat, over the library's. -/
namespace Go.Proofs.YtppmihnbpmkbnadGreat
open Go.Shelf Go.RowKit

set_option maxRecDepth 100000

def repL_ren : Go.Shelf.Ren := ⟨fun | 105 => 80 | 212 => 125 | 99 => 126 | 165 => 127 | 166 => 128 | 170 => 129 | 169 => 130 | 263 => 156 | 264 => 157 | 206 => 158 | 240 => 159 | 241 => 160 | 276 => 181 | 277 => 182 | n => n, fun | 9 => 9 | 3 => 3 | 4 => 4 | 20 => 20 | 0 => 0 | 46 => 154 | 109 => 155 | 5 => 5 | 72 => 161 | 76 => 165 | 51 => 191 | 146 => 192 | 53 => 194 | 148 => 195 | 70 => 158 | 37 => 159 | 75 => 164 | 127 => 197 | 164 => 212 | 80 => 168 | n => n, fun | n => n⟩
theorem repL : Go.Proofs.Lays.n105 Tryz.prog repL_ren := {
  mixed := by kernel_rfl
  f99 := Tryz.func126.trans (congrArg some (by kernel_rfl))
  f105 := Tryz.func80.trans (congrArg some (by kernel_rfl))
  f165 := Tryz.func127.trans (congrArg some (by kernel_rfl))
  f166 := Tryz.func128.trans (congrArg some (by kernel_rfl))
  f169 := Tryz.func130.trans (congrArg some (by kernel_rfl))
  f170 := Tryz.func129.trans (congrArg some (by kernel_rfl))
  f206 := Tryz.func158.trans (congrArg some (by kernel_rfl))
  f212 := Tryz.func125.trans (congrArg some (by kernel_rfl))
  f240 := Tryz.func159.trans (congrArg some (by kernel_rfl))
  f241 := Tryz.func160.trans (congrArg some (by kernel_rfl))
  f263 := Tryz.func156.trans (congrArg some (by kernel_rfl))
  f264 := Tryz.func157.trans (congrArg some (by kernel_rfl))
  f276 := Tryz.func181.trans (congrArg some (by kernel_rfl))
  f277 := Tryz.func182.trans (congrArg some (by kernel_rfl))
  t0 := Tryz.underlying0
  a0 := Tryz.isAgg0
  z0 := Tryz.sizeOf0
  v0 := Tryz.zeroValue0
  t3 := Tryz.underlying3
  a3 := Tryz.isAgg3
  z3 := Tryz.sizeOf3
  v3 := Tryz.zeroValue3
  t4 := Tryz.underlying4
  a4 := Tryz.isAgg4
  z4 := Tryz.sizeOf4
  v4 := Tryz.zeroValue4
  t5 := Tryz.underlying5
  a5 := Tryz.isAgg5
  z5 := Tryz.sizeOf5
  v5 := Tryz.zeroValue5
  t9 := Tryz.underlying9
  a9 := Tryz.isAgg9
  z9 := Tryz.sizeOf9
  v9 := Tryz.zeroValue9
  t20 := Tryz.underlying20
  a20 := Tryz.isAgg20
  z20 := Tryz.sizeOf20
  v20 := Tryz.zeroValue20
  t37 := Tryz.underlying159
  a37 := Tryz.isAgg159
  z37 := Tryz.sizeOf159
  v37 := Tryz.zeroValue159
  t46 := Tryz.underlying154
  a46 := Tryz.isAgg154
  z46 := Tryz.sizeOf154
  v46 := Tryz.zeroValue154
  t51 := Tryz.underlying191
  a51 := Tryz.isAgg191
  z51 := Tryz.sizeOf191
  v51 := Tryz.zeroValue191
  t53 := Tryz.underlying194
  a53 := Tryz.isAgg194
  z53 := Tryz.sizeOf194
  v53 := Tryz.zeroValue194
  t70 := Tryz.underlying158
  a70 := Tryz.isAgg158
  z70 := Tryz.sizeOf158
  v70 := Tryz.zeroValue158
  t72 := Tryz.underlying161
  a72 := Tryz.isAgg161
  z72 := Tryz.sizeOf161
  v72 := Tryz.zeroValue161
  t75 := Tryz.underlying164
  a75 := Tryz.isAgg164
  z75 := Tryz.sizeOf164
  v75 := Tryz.zeroValue164
  t76 := Tryz.underlying165
  a76 := Tryz.isAgg165
  z76 := Tryz.sizeOf165
  v76 := Tryz.zeroValue165
  t109 := Tryz.underlying155
  a109 := Tryz.isAgg155
  z109 := Tryz.sizeOf155
  v109 := Tryz.zeroValue155
  t127 := Tryz.underlying197
  a127 := Tryz.isAgg197
  z127 := Tryz.sizeOf197
  v127 := Tryz.zeroValue197
  t146 := Tryz.underlying192
  a146 := Tryz.isAgg192
  z146 := Tryz.sizeOf192
  v146 := Tryz.zeroValue192
  t148 := Tryz.underlying195
  a148 := Tryz.isAgg195
  z148 := Tryz.sizeOf195
  v148 := Tryz.zeroValue195
  t164 := Tryz.underlying212
  a164 := Tryz.isAgg212
  z164 := Tryz.sizeOf212
  v164 := Tryz.zeroValue212 }

theorem repX : Builder.Extra Tryz.prog repL_ren where
  sizeBuilder := by kernel_rfl
  liesBuilder := by kernel_rfl
  t5 := repL.t5
  a5 := repL.a5
  z5 := repL.z5
  v5 := repL.v5
  infoByte := by kernel_rfl
  cellsByte := by kernel_rfl
  sizeByte := by kernel_rfl
  neB5 := by decide

theorem repeat_any (s : ByteArray) (c : Nat) (w : World) (hc : c ≤ 9223372036854775807) (hlen : s.size * c ≤ 140737488355328) :
    Calls Tryz.prog 80 #[.string s, .int .i64 c] w fun e w' => e = .returned (.string ⟨(Lib.repeatL s.data.toList c).toArray⟩) ∧ Below w.heap.size w w' :=
  Any.strings_Repeat repL repX s c w hc hlen

end Go.Proofs.YtppmihnbpmkbnadGreat
