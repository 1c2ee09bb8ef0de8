/- Texts that are laid together. -/
import Derived.Test.YtlpnfbpgnfappaaGreatMrgI
import Derived.Test.YtlpnfbpgnfappaaGreatMrgG
import Derived.Test.YtlpnfbpgnfappaaGreatMrgF
import Derived.Lib.Repeat
import Derived.Shelf.Strings.Repeat
import Derived.Ground.NamesProg
import Derived.Test.YtlpnfbpgnfappaaGreatProg
import Derived.Test.YtlpnfbpgnfappaaGreatMrgC
import Derived.Lib.QuietBelow
import Derived.Laws.EntriesVeiled

/- The contract of graph.Order. -/
namespace Go.Proofs.YtlpnfbpgnfappaaGreat
open Go.RowKit Go.PlainAid

set_option maxRecDepth 100000

def leN (a b : Mod) : Bool := decide (a.name.data.toList ≤ b.name.data.toList)
def risen (L : List Plc) : List Mod := (L.map (·.mod)).mergeSort leN
theorem risen_perm (L : List Plc) : (risen L).Perm (L.map (·.mod)) := List.mergeSort_perm _ _
theorem risen_up (L : List Plc) : (risen L).Pairwise fun a b => leN a b = true := by
  refine List.pairwise_mergeSort (fun a b c h1 h2 => ?_) (fun a b => ?_) _
  · simp only [leN, decide_eq_true_eq] at *; exact List.le_trans h1 h2
  · simp only [leN, Bool.or_eq_true, decide_eq_true_eq]; exact List.le_total _ _
theorem risen_of {l rs : List PV} (hp : rs.Perm l) (hu : rs.Pairwise UpName) (hd : (l.map (·.mod.name)).Nodup) : rs.map (·.mod) = risen (l.map PV.plc) := by
  have hmm : (l.map PV.plc).map (·.mod) = l.map (·.mod) := by rw [List.map_map]; rfl
  have hq : (rs.map (·.mod)).Perm (risen (l.map PV.plc)) := by
    have := risen_perm (l.map PV.plc)
    rw [hmm] at this
    exact (hp.map _).trans this.symm
  have hd2 : ((rs.map (·.mod)).map (·.name)).Nodup := by
    rw [List.map_map]
    exact ((hp.map (fun x : PV => x.mod.name)).nodup_iff).2 hd
  refine List.Perm.eq_of_pairwise (le := fun a b => leN a b = true) (fun a b ha hb h1 h2 => ?_) ?_ (risen_up _) hq
  · simp only [leN, decide_eq_true_eq] at h1 h2
    exact nodup_names hd2 ha (hq.mem_iff.2 hb) (bytes_ext (List.le_antisymm h1 h2))
  · refine List.pairwise_map.2 (hu.imp fun {a b} h => ?_)
    simp only [leN, decide_eq_true_eq]
    exact List.not_lt.1 h

def ordOf (L : List Plc) : List ByteArray × Int := if chkGraph L ≠ 0 then ([], chkGraph L) else ordRes (risen L)
theorem ordOf_cases (L : List Plc) : (chkGraph L ≠ 0 ∧ ordOf L = ([], chkGraph L)) ∨ (chkGraph L = 0 ∧ ordOf L = ordRes (risen L)) := by
  unfold ordOf
  by_cases h : chkGraph L = 0
  · exact .inr ⟨h, by rw [if_neg (by omega)]⟩
  · exact .inl ⟨h, by rw [if_pos h]⟩

set_option maxHeartbeats 2000000 in
theorem order_own (l : List PV) (v : Value) (w : World) (hrow : IsPlcs w.heap.size w v l) (hfit : ∀ x ∈ l, x.mod.fits) :
    Calls Tryz.prog 33 #[v] w fun e w' => (∃ r, e = .returned (.tuple #[r, .int .i64 (ordOf (l.map PV.plc)).2]) ∧ RowOf 1 strCell w'.heap.size w' r (ordOf (l.map PV.plc)).1 ∧ CapOk r ∧ w'.ownsRow w.heap.size 9 1 r (ordOf (l.map PV.plc)).1.length ((ordOf (l.map PV.plc)).1.flatMap strC)) ∧ Below w.heap.size w w' := by
  have HW : Hid (Calls Tryz.prog 88 #[v] w fun e w' => e = .returned (.int .i64 (chkGraph (l.map PV.plc))) ∧ Below w.heap.size w w') := graphWrong_any l v w hrow hfit
  have HR : Hid (l.length ≤ 8 → ∀ W, Below w.heap.size w W → Calls Tryz.prog 90 #[v] W fun e w' => (∃ r rs, e = .returned r ∧ RowOf 7 PV.cell w'.heap.size w' r rs ∧ rs.Perm l ∧ rs.Pairwise UpName) ∧ Below W.heap.size W w') := fun h8 W hb => rising_any l v W ((hrow.below hb).more hb.size) h8
  have HO : Hid (∀ W rs r, Below w.heap.size w W → rs.Perm l → RowOf 7 PV.cell W.heap.size W r rs → l.length ≤ 8 → Calls Tryz.prog 89 #[r] W fun e w' => (∃ v, e = .returned (.tuple #[v, .int .i64 (ordRes (rs.map (·.mod))).2]) ∧ RowOf 1 strCell w'.heap.size w' v (ordRes (rs.map (·.mod))).1 ∧ CapOk v ∧ w'.ownsRow W.heap.size 9 1 v (ordRes (rs.map (·.mod))).1.length ((ordRes (rs.map (·.mod))).1.flatMap strC)) ∧ Below W.heap.size W w') :=
    fun W rs r hb hp hr h8 => ordered_own rs r W hr (fun x hx => ((hrow.2 x (hp.mem_iff.1 hx)).below hb).more hb.size) (fun x hx => hfit x (hp.mem_iff.1 hx)) (by rw [hp.length_eq]; exact h8)
  have key := ordOf_cases (l.map PV.plc)
  have HZ : Hid (chkGraph (l.map PV.plc) = 0 → l.length ≤ 8 ∧ ∀ rs : List PV, rs.Perm l → rs.Pairwise UpName → rs.map (·.mod) = risen (l.map PV.plc)) := fun h0 => by
    have h1 := chkGraph_zero.1 h0
    refine ⟨by simpa using h1.1, fun rs hp hu => risen_of hp hu ?_⟩
    have := h1.2.2
    rw [List.map_map] at this
    exact this
  obtain ⟨⟨a, cap, rfl, _, _⟩, _⟩ := hrow
  generalize chkGraph (l.map PV.plc) = cg at *
  generalize ordOf (l.map PV.plc) = OO at *
  generalize risen (l.map PV.plc) = RR at *
  clear hfit
  go_enter Tryz.func33, Tryz.ntmps33
  go_wp2_with fail
  refine HW.out.mono ?_
  rintro e w2 ⟨rfl, B2⟩
  clear HW
  rcases key with ⟨h0, rfl⟩ | ⟨rfl, rfl⟩
  · have h0' : (cg != 0) = true := by simpa using h0
    clear h0
    go_wp2
    go_ret2
    exact ⟨⟨_, rfl, ⟨none, 0, rfl, by simp, .inl rfl⟩, capNil, World.ownsRow_nil _ _ _ _⟩, B2⟩
  · obtain ⟨h8, hrs⟩ := HZ.out (by first | rfl | trivial)
    have HRS : Hid (∀ rs : List PV, rs.Perm l → rs.Pairwise UpName → rs.map (·.mod) = RR) := hrs
    clear hrs HZ
    go_wp2_with fail
    refine (HR.out h8 _ B2).mono ?_
    rintro e w3 ⟨⟨r, rs, rfl, hr, hp, hu⟩, b3⟩
    have B3 := B2.trans (b3.mono B2.size)
    have HC := HO.out w3 rs r B3 hp hr h8
    rw [HRS.out rs hp hu] at HC
    have HCC : Hid (Calls Tryz.prog 89 #[r] w3 fun e w' => (∃ v, e = .returned (.tuple #[v, .int .i64 (ordRes RR).2]) ∧ RowOf 1 strCell w'.heap.size w' v (ordRes RR).1 ∧ CapOk v ∧ w'.ownsRow w3.heap.size 9 1 v (ordRes RR).1.length ((ordRes RR).1.flatMap strC)) ∧ Below w3.heap.size w3 w') := HC
    clear HC HO HR hp hu hr HRS b3
    go_wp2_with fail
    refine HCC.out.mono ?_
    rintro e w4 ⟨⟨u, rfl, hu, hcu, hou⟩, b4⟩
    have HU : Hid (RowOf 1 strCell w4.heap.size w4 u (ordRes RR).1 ∧ CapOk u ∧ w4.ownsRow w.heap.size 9 1 u (ordRes RR).1.length ((ordRes RR).1.flatMap strC)) := ⟨hu, hcu, own_down hou B3.size⟩
    have B4 := B3.trans (b4.mono B3.size)
    clear HCC hu hcu hou b4
    go_wp2
    go_ret2
    exact ⟨⟨_, rfl, HU.out.1, HU.out.2.1, HU.out.2.2⟩, B4⟩
theorem order_any (l : List PV) (v : Value) (w : World) (hrow : IsPlcs w.heap.size w v l) (hfit : ∀ x ∈ l, x.mod.fits) :
    Calls Tryz.prog 33 #[v] w fun e w' => (∃ r, e = .returned (.tuple #[r, .int .i64 (ordOf (l.map PV.plc)).2]) ∧ RowOf 1 strCell w'.heap.size w' r (ordOf (l.map PV.plc)).1 ∧ CapOk r) ∧ Below w.heap.size w w' := by
  refine (order_own l v w hrow hfit).mono ?_
  rintro e w' ⟨⟨r, h1, h2, h3, _⟩, hb⟩
  exact ⟨⟨r, h1, h2, h3⟩, hb⟩

end Go.Proofs.YtlpnfbpgnfappaaGreat

/- Images and areas, as data. -/
namespace Go.Proofs.YtlpnfbpgnfappaaGreat
open Go.RowKit Go.PlainAid

theorem bytes_app (a b : ByteArray) : (a ++ b).data.toList = a.data.toList ++ b.data.toList := by
  rw [ByteArray.data_append, Array.toList_append]
theorem size_list (s : ByteArray) : s.size = s.data.toList.length := by
  rw [Array.length_toList]; rfl
theorem bytes_eq {a b : ByteArray} (h : a.data.toList = b.data.toList) : a = b := by
  obtain ⟨⟨a⟩⟩ := a
  obtain ⟨⟨b⟩⟩ := b
  simp at h
  rw [h]

/-- So many bytes 255. -/
def blanks (n : Nat) : ByteArray := ⟨(List.replicate n (255 : UInt8)).toArray⟩
theorem blanks_list (n : Nat) : (blanks n).data.toList = List.replicate n (255 : UInt8) := by simp [blanks]
theorem blanks_size (n : Nat) : (blanks n).size = n := by rw [size_list, blanks_list, List.length_replicate]
theorem repeat_blank (c : Nat) : (⟨(Lib.repeatL [(255 : UInt8)] c).toArray⟩ : ByteArray) = blanks c := by
  have h : ∀ c, Lib.repeatL [(255 : UInt8)] c = List.replicate c 255 := by
    intro c
    induction c with
    | zero => rfl
    | succ n ih => rw [Lib.repeatL, ih]; rfl
  rw [h]; rfl

/-- Bytes, with bytes 255 behind them up to so many. -/
def fillTo (s : ByteArray) (n : Nat) : ByteArray := s ++ blanks (n - s.size)
theorem fillTo_size {s : ByteArray} {n : Nat} (h : s.size ≤ n) : (fillTo s n).size = n := by
  unfold fillTo
  rw [ByteArray.size_append, blanks_size]
  omega
theorem fillTo_done {s : ByteArray} {n : Nat} (h : n ≤ s.size) : fillTo s n = s := by
  unfold fillTo
  rw [show n - s.size = 0 by omega]
  refine bytes_eq ?_
  rw [bytes_app, blanks_list]
  simp
theorem fillTo_step {s : ByteArray} {n : Nat} (h : s.size < n) : fillTo (s ++ ⟨#[255]⟩) n = fillTo s n := by
  unfold fillTo
  refine bytes_eq ?_
  rw [bytes_app, bytes_app, bytes_app, blanks_list, blanks_list, ByteArray.size_append]
  obtain ⟨k, hk⟩ : ∃ k, n - s.size = k + 1 := ⟨n - s.size - 1, by omega⟩
  rw [show n - (s.size + ByteArray.size ⟨#[255]⟩) = k from by
    have : ByteArray.size ⟨#[255]⟩ = 1 := rfl
    omega, hk, List.replicate_succ]
  simp

/-- The address that a patch names. -/
def symOf (ads : List Int) (beg : Int) (p : Pat) : Int := if 0 ≤ p.sym then (ads[p.sym.toNat]?).getD 0 else beg
/-- A text with patches, one by one, or why not. -/
def patd (ads : List Int) (beg : Int) : ByteArray → List Pat → ByteArray × Int
  | s, [] => (s, 0)
  | s, p :: r => if appErr s.size p (symOf ads beg p) beg ≠ 0 then (⟨#[]⟩, appErr s.size p (symOf ads beg p) beg) else patd ads beg (appStr s p (symOf ads beg p) beg) r
theorem appStr_size {s : ByteArray} {p : Pat} {sym base : Int} (h : appErr s.size p sym base = 0) : (appStr s p sym base).size = s.size := by
  unfold appStr
  rw [if_pos h, putS_size]
theorem patd_size {ads : List Int} {beg : Int} : ∀ {l : List Pat} {s : ByteArray}, (patd ads beg s l).2 = 0 → (patd ads beg s l).1.size = s.size
  | [], s, _ => rfl
  | p :: r, s, h => by
    unfold patd at h ⊢
    by_cases h0 : appErr s.size p (symOf ads beg p) beg = 0
    · rw [if_neg (by omega)] at h ⊢
      rw [patd_size h, appStr_size h0]
    · rw [if_pos h0] at h
      exact absurd h h0

/-- The image of a placed module, or why not. -/
def imgRes (K : Ker) (L : List Plc) (p : Plc) : ByteArray × Int :=
  if (allRes K L p.mod).2 ≠ 0 then (⟨#[]⟩, (allRes K L p.mod).2)
  else if (patd (allRes K L p.mod).1 (4096 + p.first * 64) p.mod.text p.mod.pats).2 ≠ 0 then (⟨#[]⟩, (patd (allRes K L p.mod).1 (4096 + p.first * 64) p.mod.text p.mod.pats).2)
  else (fillTo (patd (allRes K L p.mod).1 (4096 + p.first * 64) p.mod.text p.mod.pats).1 (64 * szM p.mod), 0)
theorem imgRes_cases (K : Ker) (L : List Plc) (p : Plc) :
    ((allRes K L p.mod).2 ≠ 0 ∧ imgRes K L p = (⟨#[]⟩, (allRes K L p.mod).2)) ∨
    ((allRes K L p.mod).2 = 0 ∧ (patd (allRes K L p.mod).1 (4096 + p.first * 64) p.mod.text p.mod.pats).2 ≠ 0 ∧ imgRes K L p = (⟨#[]⟩, (patd (allRes K L p.mod).1 (4096 + p.first * 64) p.mod.text p.mod.pats).2)) ∨
    ((allRes K L p.mod).2 = 0 ∧ (patd (allRes K L p.mod).1 (4096 + p.first * 64) p.mod.text p.mod.pats).2 = 0 ∧ imgRes K L p = (fillTo (patd (allRes K L p.mod).1 (4096 + p.first * 64) p.mod.text p.mod.pats).1 (64 * szM p.mod), 0)) := by
  unfold imgRes
  by_cases h1 : (allRes K L p.mod).2 = 0
  · by_cases h2 : (patd (allRes K L p.mod).1 (4096 + p.first * 64) p.mod.text p.mod.pats).2 = 0
    · exact .inr (.inr ⟨h1, h2, by rw [if_neg (by omega), if_neg (by omega)]⟩)
    · exact .inr (.inl ⟨h1, h2, by rw [if_neg (by omega), if_pos h2]⟩)
  · exact .inl ⟨h1, by rw [if_pos h1]⟩
theorem szM_le (m : Mod) : m.text.size ≤ 64 * szM m := by unfold szM; omega
theorem imgRes_size {K : Ker} {L : List Plc} {p : Plc} (h : (imgRes K L p).2 = 0) : (imgRes K L p).1.size = 64 * szM p.mod := by
  rcases imgRes_cases K L p with ⟨h1, e⟩ | ⟨h1, h2, e⟩ | ⟨h1, h2, e⟩
  · rw [e] at h; exact absurd h h1
  · rw [e] at h; exact absurd h h2
  · rw [e]
    exact fillTo_size (by rw [patd_size h2]; exact szM_le _)

/-- The images one behind the other, or why not. -/
def areaFrom (K : Ker) (L : List Plc) : ByteArray → List Plc → ByteArray × Int
  | s, [] => (fillTo s 1024, 0)
  | s, p :: r => if (imgRes K L p).2 ≠ 0 then (⟨#[]⟩, (imgRes K L p).2) else areaFrom K L (fillTo s (64 * p.first.toNat) ++ (imgRes K L p).1) r

/-- What is wrong with a kernel and with placed modules, but for what they ask. -/
def chkLink (K : Ker) (L : List Plc) : Int := if chkKer K ≠ 0 then chkKer K else if chkReg L ≠ 0 then chkReg L else if twiceFrom [] L = true then 6 else 0
theorem chkLink_cases (K : Ker) (L : List Plc) : (chkKer K ≠ 0 ∧ chkLink K L = chkKer K) ∨ (chkKer K = 0 ∧ chkReg L ≠ 0 ∧ chkLink K L = chkReg L) ∨ (chkKer K = 0 ∧ chkReg L = 0 ∧ twiceFrom [] L = true ∧ chkLink K L = 6) ∨ (chkKer K = 0 ∧ chkReg L = 0 ∧ twiceFrom [] L = false ∧ chkLink K L = 0) := by
  unfold chkLink
  by_cases h1 : chkKer K = 0
  · by_cases h2 : chkReg L = 0
    · cases h3 : twiceFrom [] L
      · exact .inr (.inr (.inr ⟨h1, h2, rfl, by rw [if_neg (by omega), if_neg (by omega), if_neg (by decide)]⟩))
      · exact .inr (.inr (.inl ⟨h1, h2, rfl, by rw [if_neg (by omega), if_neg (by omega), if_pos rfl]⟩))
    · exact .inr (.inl ⟨h1, h2, by rw [if_neg (by omega), if_pos h2]⟩)
  · exact .inl ⟨h1, by rw [if_pos h1]⟩
theorem chkLink_zero {K : Ker} {L : List Plc} (h : chkLink K L = 0) : chkKer K = 0 ∧ chkReg L = 0 ∧ twiceFrom [] L = false := by
  rcases chkLink_cases K L with ⟨h1, e⟩ | ⟨_, h1, e⟩ | ⟨_, _, _, e⟩ | ⟨h1, h2, h3, _⟩
  · exact absurd (e ▸ h) h1
  · exact absurd (e ▸ h) h1
  · rw [e] at h; exact absurd h (by decide)
  · exact ⟨h1, h2, h3⟩

/-- Where modules lie behind one another they can be asked for. -/
theorem reg_find {K : Ker} {L : List Plc} (hK : chkKer K = 0) (h : chkReg L = 0) : chkFind K L = 0 := by
  obtain ⟨h1, h2, h3⟩ := chkReg_zero.1 h
  unfold chkFind
  rw [if_neg (by omega)]
  unfold chkPlaced
  rw [if_neg (by omega), chkPls_by]
  refine chkBy_zero.2 fun p hp => ⟨h2 p hp, ?_⟩
  have := okPl_first h3 p hp
  have hs := szM_bd (h2 p hp)
  unfold farErr
  rw [betw_true (by omega) (by omega), if_neg (by decide)]
theorem link_find {K : Ker} {L : List Plc} (h : chkLink K L = 0) : chkFind K L = 0 := reg_find (chkLink_zero h).1 (chkLink_zero h).2.1

def areaOf (K : Ker) (L : List Plc) : ByteArray × Int := if chkLink K L ≠ 0 then (⟨#[]⟩, chkLink K L) else areaFrom K L ⟨#[]⟩ L

/-- What Order tells of modules that lie behind one another. -/
theorem lnOrd_err {L : List Plc} (h : chkReg L = 0) : (twiceFrom [] L = true ∧ (ordOf L).2 = 6) ∨ (twiceFrom [] L = false ∧ chkGraph L = 0 ∧ ((ordOf L).2 = 0 ∨ (ordOf L).2 = 4)) := by
  obtain ⟨h1, h2, _⟩ := chkReg_zero.1 h
  rcases chkGraph_cases L with ⟨hp, _⟩ | ⟨_, _, e⟩
  · refine absurd ?_ hp
    unfold plainErr
    rw [if_neg (by omega)]
    exact chkBy_zero.2 fun p hp => ⟨h2 p hp, rfl⟩
  · cases ht : twiceFrom [] L
    · rw [ht, if_neg (by decide)] at e
      refine .inr ⟨rfl, e, ?_⟩
      unfold ordOf
      rw [if_neg (by omega)]
      unfold ordRes
      split
      · exact .inr rfl
      · exact .inl rfl
    · rw [ht, if_pos rfl] at e
      refine .inl ⟨rfl, ?_⟩
      unfold ordOf
      rw [if_pos (by omega), e]

end Go.Proofs.YtlpnfbpgnfappaaGreat

/- Side by side, as data: a step, and all of them. -/
namespace Go.Proofs.YtlpnfbpgnfappaaGreat
open Go.RowKit Go.PlainAid

end Go.Proofs.YtlpnfbpgnfappaaGreat

/- The contract of strings.Repeat, over the library's. -/
namespace Go.Proofs.YtlpnfbpgnfappaaGreat
open Go.Shelf Go.RowKit

set_option maxRecDepth 100000

def repL_ren : Go.Shelf.Ren := ⟨fun | 105 => 186 | 212 => 208 | 99 => 209 | 165 => 210 | 166 => 211 | 170 => 212 | 169 => 213 | 263 => 230 | 264 => 231 | 206 => 232 | 240 => 233 | 241 => 234 | 276 => 242 | 277 => 243 | n => n, fun | 9 => 9 | 3 => 3 | 4 => 4 | 20 => 20 | 0 => 0 | 46 => 204 | 109 => 232 | 5 => 5 | 72 => 237 | 76 => 241 | 51 => 224 | 146 => 256 | 53 => 226 | 148 => 258 | 70 => 235 | 37 => 117 | 75 => 240 | 127 => 244 | 164 => 266 | 80 => 122 | n => n, fun | n => n⟩
theorem repL : Go.Proofs.Lays.n105 Tryz.prog repL_ren := {
  mixed := by kernel_rfl
  f99 := Tryz.func209.trans (congrArg some (by kernel_rfl))
  f105 := Tryz.func186.trans (congrArg some (by kernel_rfl))
  f165 := Tryz.func210.trans (congrArg some (by kernel_rfl))
  f166 := Tryz.func211.trans (congrArg some (by kernel_rfl))
  f169 := Tryz.func213.trans (congrArg some (by kernel_rfl))
  f170 := Tryz.func212.trans (congrArg some (by kernel_rfl))
  f206 := Tryz.func232.trans (congrArg some (by kernel_rfl))
  f212 := Tryz.func208.trans (congrArg some (by kernel_rfl))
  f240 := Tryz.func233.trans (congrArg some (by kernel_rfl))
  f241 := Tryz.func234.trans (congrArg some (by kernel_rfl))
  f263 := Tryz.func230.trans (congrArg some (by kernel_rfl))
  f264 := Tryz.func231.trans (congrArg some (by kernel_rfl))
  f276 := Tryz.func242.trans (congrArg some (by kernel_rfl))
  f277 := Tryz.func243.trans (congrArg some (by kernel_rfl))
  t0 := Tryz.underlying0
  a0 := Tryz.isAgg0
  z0 := Tryz.sizeOf0
  v0 := Tryz.zeroValue0
  t3 := Tryz.underlying3
  a3 := Tryz.isAgg3
  z3 := Tryz.sizeOf3
  v3 := Tryz.zeroValue3
  t4 := Tryz.underlying4
  a4 := Tryz.isAgg4
  z4 := Tryz.sizeOf4
  v4 := Tryz.zeroValue4
  t5 := Tryz.underlying5
  a5 := Tryz.isAgg5
  z5 := Tryz.sizeOf5
  v5 := Tryz.zeroValue5
  t9 := Tryz.underlying9
  a9 := Tryz.isAgg9
  z9 := Tryz.sizeOf9
  v9 := Tryz.zeroValue9
  t20 := Tryz.underlying20
  a20 := Tryz.isAgg20
  z20 := Tryz.sizeOf20
  v20 := Tryz.zeroValue20
  t37 := Tryz.underlying117
  a37 := Tryz.isAgg117
  z37 := Tryz.sizeOf117
  v37 := Tryz.zeroValue117
  t46 := Tryz.underlying204
  a46 := Tryz.isAgg204
  z46 := Tryz.sizeOf204
  v46 := Tryz.zeroValue204
  t51 := Tryz.underlying224
  a51 := Tryz.isAgg224
  z51 := Tryz.sizeOf224
  v51 := Tryz.zeroValue224
  t53 := Tryz.underlying226
  a53 := Tryz.isAgg226
  z53 := Tryz.sizeOf226
  v53 := Tryz.zeroValue226
  t70 := Tryz.underlying235
  a70 := Tryz.isAgg235
  z70 := Tryz.sizeOf235
  v70 := Tryz.zeroValue235
  t72 := Tryz.underlying237
  a72 := Tryz.isAgg237
  z72 := Tryz.sizeOf237
  v72 := Tryz.zeroValue237
  t75 := Tryz.underlying240
  a75 := Tryz.isAgg240
  z75 := Tryz.sizeOf240
  v75 := Tryz.zeroValue240
  t76 := Tryz.underlying241
  a76 := Tryz.isAgg241
  z76 := Tryz.sizeOf241
  v76 := Tryz.zeroValue241
  t109 := Tryz.underlying232
  a109 := Tryz.isAgg232
  z109 := Tryz.sizeOf232
  v109 := Tryz.zeroValue232
  t127 := Tryz.underlying244
  a127 := Tryz.isAgg244
  z127 := Tryz.sizeOf244
  v127 := Tryz.zeroValue244
  t146 := Tryz.underlying256
  a146 := Tryz.isAgg256
  z146 := Tryz.sizeOf256
  v146 := Tryz.zeroValue256
  t148 := Tryz.underlying258
  a148 := Tryz.isAgg258
  z148 := Tryz.sizeOf258
  v148 := Tryz.zeroValue258
  t164 := Tryz.underlying266
  a164 := Tryz.isAgg266
  z164 := Tryz.sizeOf266
  v164 := Tryz.zeroValue266 }

theorem repX : Builder.Extra Tryz.prog repL_ren where
  sizeBuilder := by kernel_rfl
  liesBuilder := by kernel_rfl
  t5 := repL.t5
  a5 := repL.a5
  z5 := repL.z5
  v5 := repL.v5
  infoByte := by kernel_rfl
  cellsByte := by kernel_rfl
  sizeByte := by kernel_rfl
  neB5 := by decide

theorem repeat_any (s : ByteArray) (c : Nat) (w : World) (hc : c ≤ 9223372036854775807) (hlen : s.size * c ≤ 140737488355328) :
    Calls Tryz.prog 186 #[.string s, .int .i64 c] w fun e w' => e = .returned (.string ⟨(Lib.repeatL s.data.toList c).toArray⟩) ∧ Below w.heap.size w w' :=
  Any.strings_Repeat repL repX s c w hc hlen

end Go.Proofs.YtlpnfbpgnfappaaGreat

/- The contracts of region's small functions: sectors, outside, gap; Size. -/
namespace Go.Proofs.YtlpnfbpgnfappaaGreat
open Go.RowKit Go.PlainAid

set_option maxRecDepth 100000

set_option maxHeartbeats 1000000 in
theorem sectors_any (N T : ByteArray) (ma mi : Int) (pe pi pp : Option Addr) (le ke li ki lp kp : Nat) (w : World) (hT : T.size ≤ 256) :
    Calls Tryz.prog 65 #[.agg #[.string N, .int .i64 ma, .int .i64 mi, .string T, .slice pe le ke, .slice pi li ki, .slice pp lp kp]] w fun e w' => e = .returned (.int .i64 (((T.size + 63) / 64 : Nat) : Int)) ∧ Below w.heap.size w w' := by
  have e1 : ((T.size : Int) + 64 - 1) / 64 = (((T.size + 63) / 64 : Nat) : Int) := by omega
  go_enter Tryz.func65, Tryz.ntmps65
  go_wp2
  go_ret
  refine ⟨?_, (Below.refl _ _).alloc (Nat.le_refl _) _⟩
  show Ending.returned (.int .i64 (((T.size : Int) + 64 - 1) / 64)) = _
  rw [e1]

set_option maxHeartbeats 1000000 in
theorem size_any (M : Mod) (v : Value) (w : World) (hM : IsMod w.heap.size w v M) (hf : M.fits) :
    Calls Tryz.prog 18 #[v] w fun e w' => e = .returned (.tuple #[.int .i64 (if chkMod M = 0 then (szM M : Int) else 0), .int .i64 (chkMod M)]) ∧ Below w.heap.size w w' := by
  have HC : Hid (∀ W, Below w.heap.size w W → Calls Tryz.prog 64 #[v] W fun e w' => e = .returned (.int .i64 (chkMod M)) ∧ Below W.heap.size W w') := fun W hb => check_any M v W ((hM.below hb).more hb.size) hf
  have HT : chkMod M = 0 → M.text.size ≤ 256 := fun h => (szM_bd h).2.2.1
  have hsz : Hid (szM M = (M.text.size + 63) / 64) := rfl
  have key : (chkMod M = 0 ∧ (if chkMod M = 0 then (szM M : Int) else 0) = (szM M : Int)) ∨ (chkMod M ≠ 0 ∧ (if chkMod M = 0 then (szM M : Int) else 0) = 0) := by
    by_cases h : chkMod M = 0
    · exact .inl ⟨h, if_pos h⟩
    · exact .inr ⟨h, if_neg h⟩
  generalize (if chkMod M = 0 then (szM M : Int) else 0) = R at *
  generalize szM M = sz at *
  generalize chkMod M = cm at *
  obtain ⟨ve, vi, vp, rfl, hE, hI, hP⟩ := hM
  obtain ⟨pe, ke, rfl, _, _⟩ := hE
  obtain ⟨pi, ki, rfl, _, _⟩ := hI
  obtain ⟨pp, kp, rfl, _, _⟩ := hP
  obtain ⟨N, ma, mi, T, es, is, ps⟩ := M
  dsimp only at *
  generalize es.length = le at *
  generalize is.length = li at *
  generalize ps.length = lp at *
  have HB : Hid (Below w.heap.size w (w.alloc (.cells #[.string N, .int .i64 ma, .int .i64 mi, .string T, .slice pe le ke, .slice pi li ki, .slice pp lp kp] 31))) := (Below.refl _ _).alloc (Nat.le_refl _) _
  have HCA : Hid (CellsAt (w.alloc (.cells #[.string N, .int .i64 ma, .int .i64 mi, .string T, .slice pe le ke, .slice pi li ki, .slice pp lp kp] 31)) w.heap.size 31 #[.string N, .int .i64 ma, .int .i64 mi, .string T, .slice pe le ke, .slice pi li ki, .slice pp lp kp]) := CellsAt.new _ _ _
  go_enter Tryz.func18, Tryz.ntmps18
  go_wp2_with fail
  refine (HC.out _ HB.out).mono ?_
  rintro e w2 ⟨rfl, b2⟩
  have B2 := HB.out.trans (b2.mono HB.out.size)
  have C2 := HCA.out.below b2 HCA.out.lt
  clear HB HCA b2 HC
  rcases key with ⟨rfl, rfl⟩ | ⟨h0, rfl⟩
  · have hT : T.size ≤ 256 := by first | exact HT rfl | exact HT trivial | exact HT
    have t0 := C2.cell 0
    have t1 := C2.cell 1
    have t2 := C2.cell 2
    have t3 := C2.cell 3
    have t4 := C2.cell 4
    have t5 := C2.cell 5
    have t6 := C2.cell 6
    simp at t0 t1 t2 t3 t4 t5 t6
    clear C2 HT
    go_wp2_with fail
    refine (sectors_any _ _ _ _ _ _ _ _ _ _ _ _ _ _ hT).mono ?_
    rintro e w3 ⟨rfl, b3⟩
    have B3 := B2.trans (b3.mono B2.size)
    clear b3 t0 t1 t2 t3 t4 t5 t6
    rw [← hsz.out]
    clear hsz
    go_wp2
    go_ret2
    exact ⟨rfl, B3⟩
  · have h0' : (cm != 0) = true := by simpa using h0
    clear C2 HT h0
    go_wp2
    go_ret2
    exact ⟨rfl, B2⟩

set_option maxHeartbeats 1000000 in
theorem outside_any (x : PV) (n₀ : Nat) (w : World) (hat : PlcAt n₀ w x) (h0 : chkMod x.mod = 0) :
    Calls Tryz.prog 122 #[x.val] w fun e w' => e = .returned (.int .i64 (outErr x.plc)) ∧ Below w.heap.size w w' := by
  have hT : x.mod.text.size ≤ 256 := (szM_bd h0).2.2.1
  have key : (x.first < 0 ∧ outErr x.plc = 3) ∨ (0 ≤ x.first ∧ 16 - (szM x.mod : Int) < x.first ∧ outErr x.plc = 3) ∨ (0 ≤ x.first ∧ x.first ≤ 16 - (szM x.mod : Int) ∧ outErr x.plc = 0) := by
    unfold outErr PV.plc
    dsimp only
    by_cases g1 : x.first < 0
    · exact .inl ⟨g1, if_pos (.inl g1)⟩
    by_cases g2 : 16 - (szM x.mod : Int) < x.first
    · exact .inr (.inl ⟨by omega, g2, if_pos (.inr g2)⟩)
    · exact .inr (.inr ⟨by omega, by omega, if_neg (by omega)⟩)
  have hsz : szM x.mod = (x.mod.text.size + 63) / 64 := rfl
  have hs4 := (szM_bd h0).2.1
  generalize szM x.mod = sz at *
  generalize outErr x.plc = oe at *
  unfold PV.val
  obtain ⟨⟨pe, ke, e4, _⟩, ⟨pi, ki, e5, _⟩, ⟨pp, kp, e6, _⟩⟩ := hat
  obtain ⟨⟨N, ma, mi, T, es, is, ps⟩, ve, vi, vp, fi⟩ := x
  dsimp only at *
  subst e4 e5 e6
  generalize es.length = le at *
  generalize is.length = li at *
  generalize ps.length = lp at *
  clear h0
  have HS : Hid (∀ W, Calls Tryz.prog 65 #[.agg #[.string N, .int .i64 ma, .int .i64 mi, .string T, .slice pe le ke, .slice pi li ki, .slice pp lp kp]] W fun e w' => e = .returned (.int .i64 (sz : Int)) ∧ Below W.heap.size W w') := fun W => by
    rw [hsz]
    exact sectors_any _ _ _ _ _ _ _ _ _ _ _ _ _ _ hT
  clear hsz
  have C2 : CellsAt (w.alloc (.cells #[.string N, .int .i64 ma, .int .i64 mi, .string T, .slice pe le ke, .slice pi li ki, .slice pp lp kp, .int .i64 fi] 57)) w.heap.size 57 #[.string N, .int .i64 ma, .int .i64 mi, .string T, .slice pe le ke, .slice pi li ki, .slice pp lp kp, .int .i64 fi] := CellsAt.new _ _ _
  have B2 : Below w.heap.size w (w.alloc (.cells #[.string N, .int .i64 ma, .int .i64 mi, .string T, .slice pe le ke, .slice pi li ki, .slice pp lp kp, .int .i64 fi] 57)) := (Below.refl _ _).alloc (Nat.le_refl _) _
  have t0 := cell_regrown (C2.cell 0)
  have t1 := cell_regrown (C2.cell 1)
  have t2 := cell_regrown (C2.cell 2)
  have t3 := cell_regrown (C2.cell 3)
  have t4 := cell_regrown (C2.cell 4)
  have t5 := cell_regrown (C2.cell 5)
  have t6 := cell_regrown (C2.cell 6)
  have t7 := cell_regrown (C2.cell 7)
  clear C2
  rcases key with ⟨h1, rfl⟩ | ⟨h1, h2, rfl⟩ | ⟨h1, h2, rfl⟩
  · go_enter Tryz.func122, Tryz.ntmps122
    go_wp2_with fail
    generalize w.alloc (.cells #[.string N, .int .i64 ma, .int .i64 mi, .string T, .slice pe le ke, .slice pi li ki, .slice pp lp kp, .int .i64 fi] 57) = W1 at t0 t1 t2 t3 t4 t5 t6 t7 B2 ⊢
    refine wp_region_quiet_below (by kernel_rfl) (by kernel_rfl) ?_
    repeat (quiet_step ((go_at_call 65; go_must (exact Calls.regrown_of (HS.out _)))))
    refine wpQuiet_nil ?_
    intro _ hw'
    obtain ⟨⟨dq, osq⟩, hw''⟩ := hw'
    have B5 := B2.trans ((below_regrown W1 dq osq).mono B2.size)
    rw [← hw''] at B5
    clear hw''
    go_wp2
    go_ret
    exact ⟨rfl, B5⟩
  · have h1' : decide (fi < 0) = false := decide_eq_false (by omega)
    go_enter Tryz.func122, Tryz.ntmps122
    go_wp2_with fail
    generalize w.alloc (.cells #[.string N, .int .i64 ma, .int .i64 mi, .string T, .slice pe le ke, .slice pi li ki, .slice pp lp kp, .int .i64 fi] 57) = W1 at t0 t1 t2 t3 t4 t5 t6 t7 B2 ⊢
    have i1 : IntKind.i64.wrap (16 - (sz : Int)) = 16 - (sz : Int) := by rw [i64_is]; unfold wrap64; omega
    refine wp_region_quiet_below (by kernel_rfl) (by kernel_rfl) ?_
    repeat (quiet_step ((go_at_call 65; go_must (exact Calls.regrown_of (HS.out _)))))
    refine wpQuiet_nil ?_
    intro _ hw'
    obtain ⟨⟨dq, osq⟩, hw''⟩ := hw'
    have B5 := B2.trans ((below_regrown W1 dq osq).mono B2.size)
    rw [← hw''] at B5
    clear hw''
    go_wp2
    go_ret
    exact ⟨rfl, B5⟩
  · have h1' : decide (fi < 0) = false := decide_eq_false (by omega)
    have h2' : decide (16 - (sz : Int) < fi) = false := decide_eq_false (by omega)
    go_enter Tryz.func122, Tryz.ntmps122
    go_wp2_with fail
    generalize w.alloc (.cells #[.string N, .int .i64 ma, .int .i64 mi, .string T, .slice pe le ke, .slice pi li ki, .slice pp lp kp, .int .i64 fi] 57) = W1 at t0 t1 t2 t3 t4 t5 t6 t7 B2 ⊢
    have i1 : IntKind.i64.wrap (16 - (sz : Int)) = 16 - (sz : Int) := by rw [i64_is]; unfold wrap64; omega
    refine wp_region_quiet_below (by kernel_rfl) (by kernel_rfl) ?_
    repeat (quiet_step ((go_at_call 65; go_must (exact Calls.regrown_of (HS.out _)))))
    refine wpQuiet_nil ?_
    intro _ hw'
    obtain ⟨⟨dq, osq⟩, hw''⟩ := hw'
    have B5 := B2.trans ((below_regrown W1 dq osq).mono B2.size)
    rw [← hw''] at B5
    clear hw''
    go_wp2
    go_ret
    exact ⟨rfl, B5⟩

def runC (r : Int × Int) : List Value := [.int .i64 r.1, .int .i64 r.2]
def runCell (r : Int × Int) : Nat → Value
  | 0 => .int .i64 r.1
  | _ => .int .i64 r.2
theorem runC_at (x : Int × Int) (i : Nat) (hi : i < 2) : (runC x)[i]? = some (runCell x i) := by
  have : i = 0 ∨ i = 1 := by omega
  rcases this with rfl | rfl <;> rfl
theorem infoRun : (Tryz.prog.info? 48).map (fun i => (i.zero, i.size, i.bytes)) = some (some (.agg #[.int .i64 0, .int .i64 0]), 2, 16) := by kernel_rfl
theorem infoRun_parts : ∃ i, Tryz.prog.info? 48 = some i ∧ i.zero = some (.agg #[.int .i64 0, .int .i64 0]) ∧ i.size = 2 ∧ i.bytes = 16 := by
  have h := infoRun
  cases hi : Tryz.prog.info? 48 with
  | none => rw [hi] at h; cases h
  | some i =>
    rw [hi] at h
    simp at h
    exact ⟨i, rfl, h.1, h.2.1, h.2.2⟩

set_option maxHeartbeats 1000000 in
theorem gap_any (l : List (Int × Int)) (a b : Int) (v : Value) (base : Nat) (w : World) (hown : w.ownsRow base 48 2 v l.length (l.flatMap runC)) (hb : base ≤ w.heap.size) (hl : l.length ≤ 16) (ha : 0 ≤ a ∧ a ≤ 16) (hb2 : 0 ≤ b ∧ b ≤ 16) :
    Calls Tryz.prog 67 #[v, .int .i64 a, .int .i64 b] w fun e w' => (∃ r, e = .returned r ∧ w'.ownsRow base 48 2 r (l ++ gapOf a b).length ((l ++ gapOf a b).flatMap runC)) ∧ w.grownBy w' v.ownBlock := by
  have HO := hown
  obtain ⟨av, kv, rfl⟩ := own_form hown
  by_cases h : a = b
  · subst h
    have e1 : l ++ gapOf a a = l := by simp [gapOf]
    rw [e1]
    go_enter Tryz.func67, Tryz.ntmps67
    go_wp2
    go_ret
    exact ⟨⟨_, rfl, HO⟩, World.grownBy.refl _ _⟩
  · have e1 : l ++ gapOf a b = l ++ [(a, b - a)] := by simp [gapOf, h]
    rw [e1]
    have h' : (a == b) = false := beq_eq_false_iff_ne.2 h
    obtain ⟨ii, hii, hz0, hz1, hz2⟩ := infoRun_parts
    generalize hk : l.length = k at *
    go_enter Tryz.func67, Tryz.ntmps67
    go_wp2_with (at_builtin; refine wpList_append_lies _ rfl _ _ _ rfl base 48 ii _ 2 16 Tryz.underlying44 hii hz0 hz1 hz2 rfl (by omega) (.slice av k kv) k (l.flatMap runC) rfl (HO.alloc _) ⟨w.heap.size, 0, none⟩ 1 1 [.int .i64 a, .int .i64 (b - a)] rfl rfl (World.news_of_block (cs := #[.int .i64 a, .int .i64 (b - a)]) (t := 48) (fr := (0, 0)) (CellsAt.new w 48 #[.int .i64 a, .int .i64 (b - a)])) (by simp [Value.oneCell']) (by omega) (by unfold maxLen; omega) (by omega) (by simp; omega) (w.heap.size + 1) (by simp) ?_; intro g gc w8 hown8 hgrow hat hltg)
    go_ret
    refine ⟨⟨_, rfl, ?_⟩, (World.grownBy_alloc w _ _).trans hgrow⟩
    rw [List.length_append, List.flatMap_append, hk]
    exact hown8

end Go.Proofs.YtlpnfbpgnfappaaGreat

/- The contracts of region.wrong and region.Free. -/
namespace Go.Proofs.YtlpnfbpgnfappaaGreat
open Go.RowKit Go.PlainAid

set_option maxRecDepth 100000

def bErr (b : Bool) : Int := if b = false then 4 else 0
theorem chkReg_cases (L : List Plc) : ((if 8 < L.length then 2 else chkBy outErr L) ≠ 0 ∧ chkReg L = (if 8 < L.length then 2 else chkBy outErr L)) ∨ ((if 8 < L.length then 2 else chkBy outErr L) = 0 ∧ (∀ p ∈ L, chkMod p.mod = 0 ∧ 0 ≤ p.first ∧ p.first + szM p.mod ≤ 16) ∧ chkReg L = bErr (behind 0 L)) := by
  unfold chkReg
  by_cases h8 : 8 < L.length
  · left
    simp [h8]
  · rw [if_neg h8, if_neg h8]
    by_cases h : chkBy outErr L = 0
    · right
      refine ⟨h, fun p hp => ?_, by rw [if_neg (by omega)]; rfl⟩
      obtain ⟨h1, h2⟩ := chkBy_zero.1 h p hp
      unfold outErr at h2
      split at h2
      · omega
      · exact ⟨h1, by omega, by omega⟩
    · left
      exact ⟨h, by rw [if_pos h]⟩

set_option maxHeartbeats 4000000 in
theorem regWrong_any (l : List PV) (v : Value) (w : World) (hrow : IsPlcs w.heap.size w v l) (hfit : ∀ x ∈ l, x.mod.fits) :
    Calls Tryz.prog 66 #[v] w fun e w' => e = .returned (.int .i64 (chkReg (l.map PV.plc))) ∧ Below w.heap.size w w' := by
  have HP : Hid (∀ (W : World) (t : TypeId), Below w.heap.size w W → Calls Tryz.prog 121 #[v, .slice (some ⟨W.heap.size, 0, none⟩) 1 1] (W.alloc (.cells #[.func (.func 122) #[] #[]] t)) fun e w' => e = .returned (.int .i64 (if 8 < l.length then 2 else chkBy outErr (l.map PV.plc))) ∧ Below (W.heap.size + 1) (W.alloc (.cells #[.func (.func 122) #[] #[]] t)) w') := by
    intro W t hb
    have hb1 : Below w.heap.size w (W.alloc (.cells #[.func (.func 122) #[] #[]] t)) := hb.alloc hb.size _
    have := placedWrong_one l v W.heap.size 122 outErr (W.alloc (.cells #[.func (.func 122) #[] #[]] t)) ((hrow.below hb1).more hb1.size) hfit (by simp) (by simp) (fun w x => enters_of Tryz.func122 (by kernel_rfl) rfl _ w) (fun x hx h0 W' hb' => outside_any x _ W' (((hrow.2 x hx).below hb1).more hb1.size |>.below hb') h0)
    refine this.mono ?_
    rintro e w' ⟨rfl, b⟩
    exact ⟨rfl, by simpa using b⟩
  have hat := hrow.2
  obtain ⟨⟨a, cap, rfl, hmax, hrow⟩, _⟩ := hrow
  have key := chkReg_cases (l.map PV.plc)
  rw [List.length_map] at key
  have hall : (∀ p ∈ l.map PV.plc, chkMod p.mod = 0 ∧ 0 ≤ p.first ∧ p.first + szM p.mod ≤ 16) → ∀ x ∈ l, x.mod.text.size ≤ 256 ∧ 0 ≤ x.first ∧ x.first + szM x.mod ≤ 16 := by
    intro h x hx
    obtain ⟨h1, h2, h3⟩ := h x.plc (List.mem_map_of_mem hx)
    exact ⟨(szM_bd h1).2.2.1, h2, h3⟩
  generalize chkReg (l.map PV.plc) = R at *
  generalize (if 8 < l.length then (2 : Int) else chkBy outErr (l.map PV.plc)) = cp at *
  go_enter Tryz.func66, Tryz.ntmps66
  go_wp2_with fail
  refine (HP.out w _ (Below.refl _ _)).mono ?_
  rintro e w2 ⟨rfl, b2⟩
  have B2 := ((Below.refl w.heap.size w).alloc (Nat.le_refl _) _).trans (b2.mono (by omega))
  clear HP b2
  rcases key with ⟨h0, rfl⟩ | ⟨rfl, h0, rfl⟩
  · have h0' : (R != 0) = true := by simpa using h0
    clear hall hrow hat
    go_wp2
    go_ret
    exact ⟨rfl, B2⟩
  · have hx0 := hall h0
    clear hall h0
    go_wp2_with fail
    go_loopw [4, 15] (fun d i wr => ∃ (k : Nat) (e : Int), k ≤ l.length ∧ i = .int .i64 k ∧ d = .int .i64 e ∧ Hid (behind 0 (l.map PV.plc) = behind e ((l.drop k).map PV.plc)) ∧ Below w.heap.size w wr) (fun _ i _ => l.length - (intOf i).toNat)
    case atStart => exact ⟨0, 0, Nat.zero_le _, rfl, rfl, by show behind 0 (l.map PV.plc) = behind 0 ((l.drop 0).map PV.plc); rfl, B2⟩
    case round =>
      obtain ⟨k, en, hk, rfl, rfl, HC, B⟩ := hrel
      by_cases hlt : k < l.length
      · obtain ⟨x, hx⟩ : ∃ x, l[k]? = some x := ⟨_, List.getElem?_eq_getElem hlt⟩
        rcases hrow with h | ⟨b, off, rfl, hbn, hcells⟩
        · subst h; simp at hlt
        have HR : Hid (behind 0 (l.map PV.plc) = (!decide (x.first < en) && behind (x.first + szM x.mod) ((l.drop (k + 1)).map PV.plc))) := by
          show behind 0 (l.map PV.plc) = _
          rw [HC.out, drop_at hx]; rfl
        have hxx := hx0 x (List.mem_of_getElem? hx)
        have HS : Hid (∀ W, Calls Tryz.prog 65 #[x.modV] W fun e w' => e = .returned (.int .i64 (szM x.mod : Int)) ∧ Below W.heap.size W w') := by
          intro W
          obtain ⟨⟨pe, ke, e4, _⟩, ⟨pi, ki, e5, _⟩, ⟨pp, kp, e6, _⟩⟩ := hat x (List.mem_of_getElem? hx)
          unfold PV.modV
          rw [e4, e5, e6]
          exact sectors_any _ _ _ _ _ _ _ _ _ _ _ _ _ _ hxx.1
        obtain ⟨⟨pe, ke, e4, _⟩, ⟨pi, ki, e5, _⟩, ⟨pp, kp, e6, _⟩⟩ := hat x (List.mem_of_getElem? hx)
        generalize hsz : szM x.mod = sz at *
        obtain ⟨⟨N, ma, mi, T, es, is, ps⟩, ve, vi, vp, fi⟩ := x
        dsimp only at e4 e5 e6
        subst e4 e5 e6
        have c0 := (B.cell (p := ⟨b, off + k * 8 + 0, none⟩) hbn).trans (hcells k _ hx 0 (by omega))
        have c1 := (B.cell (p := ⟨b, off + k * 8 + 1, none⟩) hbn).trans (hcells k _ hx 1 (by omega))
        have c2 := (B.cell (p := ⟨b, off + k * 8 + 2, none⟩) hbn).trans (hcells k _ hx 2 (by omega))
        have c3 := (B.cell (p := ⟨b, off + k * 8 + 3, none⟩) hbn).trans (hcells k _ hx 3 (by omega))
        have c4 := (B.cell (p := ⟨b, off + k * 8 + 4, none⟩) hbn).trans (hcells k _ hx 4 (by omega))
        have c5 := (B.cell (p := ⟨b, off + k * 8 + 5, none⟩) hbn).trans (hcells k _ hx 5 (by omega))
        have c6 := (B.cell (p := ⟨b, off + k * 8 + 6, none⟩) hbn).trans (hcells k _ hx 6 (by omega))
        have c7 := (B.cell (p := ⟨b, off + k * 8 + 7, none⟩) hbn).trans (hcells k _ hx 7 (by omega))
        dsimp only [PV.cell] at c0 c1 c2 c3 c4 c5 c6 c7
        dsimp only [PV.modV] at HS
        dsimp only at hxx HR
        rw [Nat.add_zero] at c0
        clear HC hcells hx hat hsz hx0
        obtain ⟨_, hf0, hf1⟩ := hxx
        generalize es.length = le at *
        generalize is.length = li at *
        generalize ps.length = lp at *
        have C2 : CellsAt (wr.alloc (.cells #[.string N, .int .i64 ma, .int .i64 mi, .string T, .slice pe le ke, .slice pi li ki, .slice pp lp kp, .int .i64 fi] 57)) wr.heap.size 57 #[.string N, .int .i64 ma, .int .i64 mi, .string T, .slice pe le ke, .slice pi li ki, .slice pp lp kp, .int .i64 fi] := CellsAt.new _ _ _
        have BB : Below w.heap.size w (wr.alloc (.cells #[.string N, .int .i64 ma, .int .i64 mi, .string T, .slice pe le ke, .slice pi li ki, .slice pp lp kp, .int .i64 fi] 57)) := B.alloc B.size _
        by_cases hb : fi < en
        · have HZ : Hid (behind 0 (l.map PV.plc) = false) := by
            show behind 0 (l.map PV.plc) = false
            rw [HR.out, decide_eq_true hb]; rfl
          clear HR HS C2
          go_wp2
          go_ret
          exact ⟨by rw [HZ.out]; rfl, BB⟩
        · have hb' : decide (fi < en) = false := decide_eq_false hb
          have HZ : Hid (behind 0 (l.map PV.plc) = behind (fi + sz) ((l.drop (k + 1)).map PV.plc)) := by
            show behind 0 (l.map PV.plc) = _
            rw [HR.out, hb']; rfl
          clear HR
          have t0 := cell_regrown (C2.cell 0)
          have t1 := cell_regrown (C2.cell 1)
          have t2 := cell_regrown (C2.cell 2)
          have t3 := cell_regrown (C2.cell 3)
          have t4 := cell_regrown (C2.cell 4)
          have t5 := cell_regrown (C2.cell 5)
          have t6 := cell_regrown (C2.cell 6)
          have t7 := cell_regrown (C2.cell 7)
          clear C2
          go_wp2_with fail
          generalize wr.alloc (.cells #[.string N, .int .i64 ma, .int .i64 mi, .string T, .slice pe le ke, .slice pi li ki, .slice pp lp kp, .int .i64 fi] 57) = W1 at t0 t1 t2 t3 t4 t5 t6 t7 BB ⊢
          have i1 : IntKind.i64.wrap (fi + (sz : Int)) = fi + (sz : Int) := by rw [i64_is]; unfold wrap64; omega
          refine wp_region_quiet_below (by kernel_rfl) (by kernel_rfl) ?_
          repeat (quiet_step ((go_at_call 65; go_must (exact Calls.regrown_of (HS.out _)))))
          refine wpQuiet_nil ?_
          intro _ hw'
          obtain ⟨⟨dq, osq⟩, hw''⟩ := hw'
          have B5 := BB.trans ((below_regrown W1 dq osq).mono BB.size)
          rw [← hw''] at B5
          clear hw'' t0 t1 t2 t3 t4 t5 t6 t7 HS
          go_wp2
          exact ⟨⟨k + 1, fi + sz, by omega, by go_num, by first | rfl | (rw [i1]), HZ.out, B5⟩, by simp [intOf]; omega⟩
      · obtain rfl : k = l.length := by omega
        have HZ : Hid (behind 0 (l.map PV.plc) = true) := by
          show behind 0 (l.map PV.plc) = true
          rw [HC.out, List.drop_length]; rfl
        go_wp2
        go_ret
        exact ⟨by rw [HZ.out]; rfl, B⟩

end Go.Proofs.YtlpnfbpgnfappaaGreat

/- The contract of slices.IndexFunc at runs. -/
namespace Go.Proofs.YtlpnfbpgnfappaaGreat
open Go.RowKit Go.PlainAid

set_option maxRecDepth 100000

set_option maxHeartbeats 1000000 in
theorem idxRun_any (l : List (Int × Int)) (v : Value) (K : FuncId) (c : Value) (hK : ∀ w x, Sem.run Tryz.prog (callFunc K #[x, c]) w = .ok (.enter K #[x, c]) w) (p : Int × Int → Bool) (w : World) (hrow : RowOf 2 runCell w.heap.size w v l)
    (hp : ∀ x ∈ l, ∀ W, Below w.heap.size w W → Calls Tryz.prog K #[.agg #[.int .i64 x.1, .int .i64 x.2], c] W fun e W' => e = .returned (.bool (p x)) ∧ Below W.heap.size W W') :
    Calls Tryz.prog 93 #[v, .func (.func K) #[] #[c]] w fun e w' => e = .returned (.int .i64 (ixFrom p 0 l)) ∧ Below w.heap.size w w' := by
  obtain ⟨a, cap, rfl, _, hrow⟩ := hrow
  go_enter Tryz.func93, Tryz.ntmps93
  go_wp2
  go_loopw [8] (fun i wr => ∃ (k : Nat), k ≤ l.length ∧ i = .int .i64 k ∧ Hid (ixFrom p 0 l = ixFrom p k (l.drop k)) ∧ Below w.heap.size w wr) (fun i _ => l.length - (intOf i).toNat)
  case atStart => exact ⟨0, Nat.zero_le _, rfl, by show ixFrom p 0 l = ixFrom p 0 (l.drop 0); rfl, Below.refl _ _⟩
  case round =>
    obtain ⟨k, hk, rfl, HC, B⟩ := hrel
    by_cases hlt : k < l.length
    · obtain ⟨x, hx⟩ : ∃ x, l[k]? = some x := ⟨_, List.getElem?_eq_getElem hlt⟩
      rcases hrow with h | ⟨b, off, rfl, hbn, hcells⟩
      · subst h; simp at hlt
      have HP := hp x (List.mem_of_getElem? hx)
      obtain ⟨nm, ps⟩ := x
      have c0 := (B.cell (p := ⟨b, off + k * 2 + 0, none⟩) hbn).trans (hcells k _ hx 0 (by omega))
      have c1 := (B.cell (p := ⟨b, off + k * 2 + 1, none⟩) hbn).trans (hcells k _ hx 1 (by omega))
      dsimp only [runCell] at c0 c1
      rw [Nat.add_zero] at c0
      have HR : Hid (ixFrom p 0 l = if p ⟨nm, ps⟩ then (k : Int) else ixFrom p (k + 1) (l.drop (k + 1))) := by
        show ixFrom p 0 l = _
        rw [HC.out, drop_at hx]; rfl
      have HP' : Hid (∀ W, Below w.heap.size w W → Calls Tryz.prog K #[.agg #[.int .i64 nm, .int .i64 ps], c] W fun e W' => e = .returned (.bool (p ⟨nm, ps⟩)) ∧ Below W.heap.size W W') := HP
      clear HC hcells hx HP
      generalize p ⟨nm, ps⟩ = t at HR HP'
      go_wp2_with fail
      refine Calls.mono (HP'.out _ B) ?_
      rintro e w2 ⟨rfl, b2⟩
      have B2 := B.trans (b2.mono B.size)
      clear b2 HP' c0 c1
      cases t
      · go_wp2
        exact ⟨⟨k + 1, by omega, by go_num, HR.out, B2⟩, by simp [intOf]; omega⟩
      · go_wp2
        go_ret
        exact ⟨by rw [HR.out]; rfl, B2⟩
    · obtain rfl : k = l.length := by omega
      have HZ : Hid (ixFrom p 0 l = -1) := by
        show ixFrom p 0 l = -1
        rw [HC.out, List.drop_length]; rfl
      go_wp2
      go_ret
      exact ⟨by rw [HZ.out]; rfl, B⟩

end Go.Proofs.YtlpnfbpgnfappaaGreat
