/- Texts that are laid together. -/
import Derived.Test.YthmohjgdcjafkaeGreatMrgC
import Derived.Laws.IdiomStrings
import Derived.Test.YthmohjgdcjafkaeGreatMrgA
import Derived.Laws.BitsLemmas
import Derived.Laws.Bits64
import Derived.Test.YthmohjgdcjafkaeGreatMrgB
import Derived.Laws.Rows
import Derived.Laws.ResultCell

/- The contract of word.Put. -/
namespace Go.Proofs.YthmohjgdcjafkaeGreat
open Go.RowKit Go.Shelf Go.PlainAid
attribute [local go_sem] Oper.semAt_some

/-- Block b holds these bytes, and they may be written. -/
def HoldsB (W : World) (b : Nat) (l : List UInt8) : Prop := ∀ j v, l[j]? = some v → W.cell? ⟨b, j, none⟩ = some (.int .u8 (v.toNat : Int)) ∧ W.frozen? ⟨b, j, none⟩ = false

theorem HoldsB.set {W : World} {b : Nat} {l : List UInt8} (h : HoldsB W b l) (i : Nat) (v : UInt8) (hi : i < l.length) : HoldsB (W.setCell ⟨b, i, none⟩ (.int .u8 (v.toNat : Int))).drew b (l.set i v) := by
  intro j u hj
  show (W.setCell ⟨b, i, none⟩ (.int .u8 (v.toNat : Int))).cell? ⟨b, j, none⟩ = _ ∧ (W.setCell ⟨b, i, none⟩ (.int .u8 (v.toNat : Int))).frozen? ⟨b, j, none⟩ = false
  rw [World.frozen?_setCell]
  by_cases e : i = j
  · subst e
    rw [List.getElem?_set_self hi] at hj
    cases hj
    obtain ⟨h1, h2⟩ := h i l[i] (List.getElem?_eq_getElem hi)
    exact ⟨World.cell?_setCell_same' _ _ _ (by rw [h1]; rfl), h2⟩
  · rw [List.getElem?_set_ne e] at hj
    obtain ⟨h1, h2⟩ := h j u hj
    exact ⟨(World.cell?_setCell_other _ _ _ _ (by intro h; cases h; exact e rfl)).trans h1, h2⟩

theorem HoldsB.alloc {W : World} {b : Nat} {l : List UInt8} (h : HoldsB W b l) (o : Obj) : HoldsB (W.alloc o) b l := fun j v hj =>
  ⟨cell_kept (h j v hj).1 (World.grownBy_alloc W o none) (fun r e => by cases e), (frozen_kept (h j v hj).1 (World.grownBy_alloc W o none) (fun r e => by cases e)).trans (h j v hj).2⟩

theorem holdsB_own {β : Type} (b : Nat) (f : β → List UInt8) : Own (fun s W => HoldsB W b (f s)) := fun _ _ _ _ hs hg hr j v hj =>
  ⟨cell_kept (hs j v hj).1 hg hr, (frozen_kept (hs j v hj).1 hg hr).trans (hs j v hj).2⟩

theorem boxed_otherAt {W : World} {B B' : Nat} {t : TypeId} {v : Value} (h : Boxed W B t v) (hne : B ≠ B') (o : Nat) (u : Value) : Boxed (W.setCell ⟨B', o, none⟩ u).drew B t v :=
  (Below.heap_setCell W ⟨B', o, none⟩ u B hne).trans h

theorem pow_256 (x : Nat) : (2 : Int) ^ (8 * x) = 256 ^ x := by rw [Int.pow_mul]; rfl

theorem bytes_of_string (w : World) (n : Int) (s : ByteArray) : ∃ cap W1, Sem.run Tryz.prog (convert 9 185 (Value.string s)) (w.alloc (.cells #[.int .i64 n] 3)) = .ok (.slice (some ⟨w.heap.size + 1, 0, none⟩) s.size cap) W1 ∧
    W1.heap.size = w.heap.size + 1 + 1 ∧ HoldsB W1 (w.heap.size + 1) s.data.toList ∧ Boxed W1 w.heap.size 3 (.int .i64 n) ∧ Below w.heap.size w W1 := by
  have h := run_bytes_of_string (P := Tryz.prog) (w.alloc (.cells #[.int .i64 n] 3)) 9 185 5 s Tryz.underlying9 Tryz.underlying185 Tryz.underlying5
  rw [World.size_alloc] at h
  refine ⟨_, _, h, by simp, ?_, ?_, ?_⟩
  · intro j v hj
    have hj' : j < s.data.size := by have := (List.getElem?_eq_some_iff.1 hj).1; simpa using this
    have h1 := World.cell?_alloc_mark (w.alloc (.cells #[.int .i64 n] 3)).drew (bytesRow s (grownCap (w.alloc (.cells #[.int .i64 n] 3)) s.size 0 5)) 5 ((bytesRow s (grownCap (w.alloc (.cells #[.int .i64 n] 3)) s.size 0 5)).size, (bytesRow s (grownCap (w.alloc (.cells #[.int .i64 n] 3)) s.size 0 5)).size + 1) j
    have h2 := World.frozen?_alloc_mark (w.alloc (.cells #[.int .i64 n] 3)).drew (bytesRow s (grownCap (w.alloc (.cells #[.int .i64 n] 3)) s.size 0 5)) 5 (bytesRow s (grownCap (w.alloc (.cells #[.int .i64 n] 3)) s.size 0 5)).size ((bytesRow s (grownCap (w.alloc (.cells #[.int .i64 n] 3)) s.size 0 5)).size + 1) j
    have e : (w.alloc (.cells #[.int .i64 n] 3)).drew.heap.size = w.heap.size + 1 := World.size_alloc _ _
    rw [e] at h1 h2
    refine ⟨h1.trans ?_, h2.trans ?_⟩
    · rw [bytesRow_at s _ j hj']
      have : s.data[j] = v := by
        have := (List.getElem?_eq_some_iff.1 hj).2
        simpa using this
      rw [this]
    · have : j < (bytesRow s (grownCap (w.alloc (.cells #[.int .i64 n] 3)) s.size 0 5)).size := by
        have : s.data.size = s.size := rfl
        simp [bytesRow]; omega
      rw [decide_eq_false (by omega)]; rfl
  · exact (show Boxed (w.alloc (.cells #[.int .i64 n] 3)).drew w.heap.size 3 (.int .i64 n) from Boxed.new w 3 (.int .i64 n)).alloc _
  · exact (((Below.refl _ w).alloc (Nat.le_refl _) _).drew).alloc (by simp) _

set_option maxRecDepth 100000 in
set_option maxHeartbeats 1000000 in
theorem put_ok_in (s : ByteArray) (at' m : Nat) (n : Int) (w : World)
    (hs : s.size ≤ 140737488351232) (hm1 : 1 ≤ m) (hm : m ≤ 4) (ha : at' + m ≤ s.size) :
    CallsIn Fence.wide 8 Tryz.prog 208 #[.string s, .int .i64 at', .int .i64 m, .int .i64 n] w fun e w' =>
      e = .returned (.tuple #[.string (putS s at' m n), .int .i64 0]) ∧ Below w.heap.size w w' := by
  have hwr : wrongAt s.size at' m = 0 := by unfold wrongAt; rw [if_neg (by omega), if_neg (by omega)]
  obtain ⟨cap, W1, hconv, hsz, hb1, bn1, hbl1⟩ := bytes_of_string w n s
  refine callsIn_of_wp_marks Tryz.func208 rfl trivial ?_ rfl
  simp only [Tryz.ntmps208, List.size_toArray, List.length_cons, List.length_nil, Nat.reduceAdd, Nat.reduceSub, Array.replicate_succ, Array.replicate_zero, List.push_toArray, List.append_toArray, List.nil_append, List.cons_append]
  gi_wp2_with (first
    | (refine ⟨trivial, ?_⟩; gi_at_call 218; refine (callsIn_wide.2 (wrongPlace_any _ _ _ _ (by omega) (by omega))).mono ?_; rw [hwr]; rintro e w' ⟨rfl, rfl⟩)
    | (refine ⟨trivial, ?_⟩; gi_at_call 219; refine (bytesOf_in Fence.wide _ trivial rfl _ _ _).mono ?_; rintro e w' ⟨rfl, rfl⟩))
  have bn := ((bn1.alloc (.cells #[.slice (some ⟨w.heap.size + 1, 0, none⟩) s.size cap] 185)).alloc (.cells #[.int .i64 at'] 3)).alloc (.cells #[.int .i64 m] 3)
  have bt0 := ((Boxed.new W1 185 (.slice (some ⟨w.heap.size + 1, 0, none⟩) s.size cap)).alloc (.cells #[.int .i64 at'] 3)).alloc (.cells #[.int .i64 m] 3)
  have ba := (Boxed.new (W1.alloc (.cells #[.slice (some ⟨w.heap.size + 1, 0, none⟩) s.size cap] 185)) 3 (.int .i64 at')).alloc (.cells #[.int .i64 m] 3)
  have bm := Boxed.new ((W1.alloc (.cells #[.slice (some ⟨w.heap.size + 1, 0, none⟩) s.size cap] 185)).alloc (.cells #[.int .i64 at'] 3)) 3 (.int .i64 m)
  simp only [World.size_alloc, hsz] at bt0 ba bm
  have hb0 : HoldsB (((W1.alloc (.cells #[.slice (some ⟨w.heap.size + 1, 0, none⟩) s.size cap] 185)).alloc (.cells #[.int .i64 at'] 3)).alloc (.cells #[.int .i64 m] 3)) (w.heap.size + 1) s.data.toList :=
    ((hb1.alloc _).alloc _).alloc _
  have hB0 : Below w.heap.size w (((W1.alloc (.cells #[.slice (some ⟨w.heap.size + 1, 0, none⟩) s.size cap] 185)).alloc (.cells #[.int .i64 at'] 3)).alloc (.cells #[.int .i64 m] 3)) :=
    ((hbl1.alloc (by omega) _).alloc (by simp; omega) _).alloc (by simp; omega) _
  refine wpIn_rangeFunc_ownF rfl (by omega) (gf := 224) (lb := #[.pointer (some ⟨w.heap.size + 1 + 1 + 1 + 1, 0, none⟩), .pointer (some ⟨w.heap.size + 1 + 1 + 1, 0, none⟩)]) rfl trivial (enters_of Tryz.func224 (by kernel_rfl) rfl)
    (bytesOf_stops Fence.wide _ trivial rfl (by omega) (w.heap.size + 1 + 1 + 1) (w.heap.size + 1 + 1 + 1 + 1) at' m hm (by omega) _ (by simp; omega) (by simp; omega) ba.cell bm.cell) KeepsTwo.trans (keepsTwo_b (by simp; omega) (by simp; omega)) (Below.refl _ _) (fun _ => rfl)
    (fun pre W => ((Boxed W w.heap.size 3 (.int .i64 n) ∧ Boxed W (w.heap.size + 1 + 1) 185 (.slice (some ⟨w.heap.size + 1, 0, none⟩) s.size cap)) ∧ HoldsB W (w.heap.size + 1) (putFold s at' n (pre.map (·.1)))) ∧ Below w.heap.size w W)
    (fun _ _ _ => False)
    (OwnFrom.and (OwnFrom.and (OwnFrom.and (Own.from (boxed_own _ _ _) _) (Own.from (boxed_own _ _ _) _)) (Own.from (holdsB_own _ _) _)) (ownFrom_below (Nat.le_refl _) (by simp; omega)))
    (fun _ _ _ _ _ hs _ _ => hs)
    ⟨⟨⟨bn, bt0⟩, hb0⟩, hB0⟩
    (fun x => { tmps := #[.string s, .int .i64 at', .int .i64 m, .int .i64 n, undef, undef, undef, .pointer (some ⟨w.heap.size, 0, none⟩), .string ⟨#[]⟩, .int .i64 0, .int .i64 0, .pointer (some ⟨w.heap.size + 1 + 1, 0, none⟩),
        .int .i64 (at' + x.1), .int .i64 (8 * (x.1 : Int)), .string s, .int .i64 s.size, .int .i64 at', .int .i64 m, .int .i64 0, .int .i64 0, .bool false, undef, .string s, .slice (some ⟨w.heap.size + 1, 0, none⟩) s.size cap, .int .i64 at', .int .i64 m,
        .func (.func 224) #[] #[.pointer (some ⟨w.heap.size + 1 + 1 + 1 + 1, 0, none⟩), .pointer (some ⟨w.heap.size + 1 + 1 + 1, 0, none⟩)], .int .i64 (at' + x.1), .int .i64 (8 * (x.1 : Int)),
        undef, undef, undef, undef, undef, undef, undef, undef, undef], defers := [] }) ?assign ?body ?done ?stop
  case assign =>
    intro l x W K hK
    gi_wp2
    exact hK
  case body =>
    rintro l pre ⟨x, hx⟩ W ⟨⟨⟨hbn, hbt⟩, hbb⟩, hB⟩ _
    have hcn := hbn.cell
    have hct := hbt.cell
    have hlen := putFold_length s at' n (pre.map (·.1))
    obtain ⟨b0, hb0'⟩ : ∃ v, (putFold s at' n (pre.map (·.1)))[at' + x]? = some v := ⟨_, List.getElem?_eq_getElem (by omega)⟩
    obtain ⟨hcc, hfc⟩ := hbb (at' + x) b0 hb0'
    have hset := hbb.set (at' + x) (byteOf n x) (by omega)
    have HB := byteOf_toNat n x
    have HBN : Hid (HoldsB (W.setCell ⟨w.heap.size + 1, at' + x, none⟩ (.int .u8 (n / 2 ^ (8 * x) % 256))).drew (w.heap.size + 1) ((putFold s at' n (pre.map (·.1))).set (at' + x) (byteOf n x))) := by rw [pow_256, ← HB]; exact hset
    clear bn bt0 ba bm hB0 hwr hb0 hb1 bn1 hbl1 hconv hlen HB hset hb0'
    have hmx : Tryz.prog.follows .mixedOrders = true := by kernel_rfl
    have hx0 : (at' : Int) + x < s.size := by omega
    have hx1 : (x : Int) ≤ 3 := by omega
    gi_wp2
    gi_region_o
    all_goals gi_wp2
    all_goals (try go_bits)
    all_goals
      exact ⟨(KeepsOthers.setCell _ _ _).trans (KeepsOthers.drew _), keepsTwo_set (by omega) (by omega) _ _, ⟨⟨boxed_otherAt hbn (by omega) _ _, boxed_otherAt hbt (by omega) _ _⟩, by rw [List.map_append, List.map_cons, List.map_nil, putFold_snoc]; exact HBN.out⟩, (hB.setCell (p := ⟨w.heap.size + 1, at' + x, none⟩) (Nat.le_succ _) _).drew⟩
  case done =>
    rintro D ys W hD hys ⟨⟨⟨_, hbt⟩, hbb⟩, hB⟩ hK
    have hct := hbt.cell
    have hlen := putFold_length s at' n (List.range m)
    rw [hys] at hbb
    have hback := run_convert_bytes_back (P := Tryz.prog) W 185 9 5 ⟨w.heap.size + 1, 0, none⟩ cap (putFold s at' n (List.range m)) Tryz.underlying185 Tryz.underlying5 Tryz.underlying9
      (fun j hj => by
        have := (hbb j _ (List.getElem?_eq_getElem hj)).1
        by_cases e : j = 0
        · subst e; simpa [Addr.add] using this
        · simpa [Addr.add, e] using this)
    rw [hlen] at hback
    change _ = Result.ok (Value.string (putS s at' m n)) W at hback
    clear bn bt0 ba bm hB0 hwr hb0 hb1 bn1 hbl1 hconv hlen hbb hys hbt
    gi_wp2
    refine ⟨by simp, .inl ⟨_, _, rfl, run_takeDeferred hK, ?_⟩⟩
    exact ⟨_, by simp [results, Tryz.f208, go_sem], rfl, hB.trans (belowK_b (w := w) (Nat.le_refl _) W D _ _ (by simp at hD; omega) hK rfl rfl)⟩
  case stop =>
    rintro D c pre W _ _ h _
    exact h.elim

end Go.Proofs.YthmohjgdcjafkaeGreat

/- The contracts of word.Get and word.Put, whatever they are handed; and of what must be in any case. -/
namespace Go.Proofs.YthmohjgdcjafkaeGreat
open Go.RowKit Go.PlainAid

def getR (s : ByteArray) (at' bytes : Int) : Int := if wrongAt s.size at' bytes = 0 then getN s at'.toNat bytes.toNat else 0
def putR (s : ByteArray) (at' bytes n : Int) : ByteArray := if wrongAt s.size at' bytes = 0 then putS s at'.toNat bytes.toNat n else ⟨#[]⟩

theorem wrongAt_zero {len at' bytes : Int} (h : wrongAt len at' bytes = 0) : 1 ≤ bytes ∧ bytes ≤ 4 ∧ 0 ≤ at' ∧ at' + bytes ≤ len := by
  unfold wrongAt at h
  split at h
  · omega
  · split at h
    · omega
    · omega

set_option maxHeartbeats 400000 in
theorem put_any (s : ByteArray) (at' bytes n : Int) (w : World) (hs : s.size ≤ 140737488351232) :
    Calls Tryz.prog 208 #[.string s, .int .i64 at', .int .i64 bytes, .int .i64 n] w fun e w' =>
      e = .returned (.tuple #[.string (putR s at' bytes n), .int .i64 (wrongAt s.size at' bytes)]) ∧ Below w.heap.size w w' := by
  by_cases h : wrongAt s.size at' bytes = 0
  · obtain ⟨h1, h2, h3, h4⟩ := wrongAt_zero h
    rw [putR, if_pos h, h]
    obtain ⟨a, rfl⟩ := Int.eq_ofNat_of_zero_le h3
    obtain ⟨b, rfl⟩ := Int.eq_ofNat_of_zero_le (show 0 ≤ bytes by omega)
    exact callsIn_wide.1 (put_ok_in s a b n w hs (by omega) (by omega) (by omega))
  · rw [putR, if_neg h]
    have hb : (wrongAt s.size at' bytes != 0) = true := by simpa using h
    clear h
    generalize hx : wrongAt s.size at' bytes = x at hb
    have HX : Hid (wrongAt s.size at' bytes = x) := hx
    clear hx
    go_enter Tryz.func208, Tryz.ntmps208
    go_wp2_with (go_at_call 218; refine (wrongPlace_any _ _ _ _ (by omega) (by omega)).mono ?_; rw [HX.out]; rintro e w' ⟨rfl, rfl⟩)
    go_ret2
    exact ⟨rfl, (Below.refl _ _).alloc (Nat.le_refl _) _⟩

theorem put_begun (w : World) : Calls Tryz.prog 208 #[.string ⟨#[97, 98, 99]⟩, .int .i64 1, .int .i64 2, .int .i64 (-1)] w fun e w' => e = .returned (.tuple #[.string ⟨#[97, 255, 255]⟩, .int .i64 0]) ∧ Below w.heap.size w w' := by
  have p := put_any ⟨#[97, 98, 99]⟩ 1 2 (-1) w (by decide)
  rwa [show putR ⟨#[97, 98, 99]⟩ 1 2 (-1) = ⟨#[97, 255, 255]⟩ from by decide, show wrongAt (ByteArray.size ⟨#[97, 98, 99]⟩ : Nat) 1 2 = 0 from by decide] at p
end Go.Proofs.YthmohjgdcjafkaeGreat

/- Patches as numbers: what stands there, or why nothing can. -/
namespace Go.Proofs.YthmohjgdcjafkaeGreat
open Go.RowKit Go.PlainAid

def valRange (sym add place : Int) : Bool := betw sym 0 65535 && betw place 0 65535 && betw add 0 65535
/-- Why no number can stand there. -/
def valErr (kind sym add place : Int) : Int :=
  if width kind = 0 then 7 else if valRange sym add place = false then 3 else if kind = 5 ∧ (sym + add - place) % 2 = 1 then 4 else 0
def rawVal (kind sym add place : Int) : Int :=
  if kind = 1 then sym + add else if kind = 2 then (sym + add - place) % 4294967296 else if kind = 3 then (sym + add) / 65536 else if kind = 4 then (sym + add) % 65536 else ((sym + add - place) / 2) % 16777216
def valNum (kind sym add place : Int) : Int := if valErr kind sym add place = 0 then rawVal kind sym add place else 0

theorem valRange_true {sym add place : Int} (h : valRange sym add place = true) : 0 ≤ sym ∧ sym ≤ 65535 ∧ 0 ≤ place ∧ place ≤ 65535 ∧ 0 ≤ add ∧ add ≤ 65535 := by
  unfold valRange at h
  simp only [Bool.and_eq_true, betw_iff] at h
  omega

/-- The ways of a value. -/
theorem val_cases (kind sym add place : Int) :
    (width kind = 0 ∧ valErr kind sym add place = 7 ∧ valNum kind sym add place = 0) ∨
    (width kind ≠ 0 ∧ valRange sym add place = false ∧ valErr kind sym add place = 3 ∧ valNum kind sym add place = 0) ∨
    (valRange sym add place = true ∧ (
      (kind = 1 ∧ valErr kind sym add place = 0 ∧ valNum kind sym add place = sym + add) ∨
      (kind = 2 ∧ valErr kind sym add place = 0 ∧ valNum kind sym add place = (sym + add - place) % 4294967296) ∨
      (kind = 3 ∧ valErr kind sym add place = 0 ∧ valNum kind sym add place = (sym + add) / 65536) ∨
      (kind = 4 ∧ valErr kind sym add place = 0 ∧ valNum kind sym add place = (sym + add) % 65536) ∨
      (kind = 5 ∧ (sym + add - place) % 2 = 1 ∧ valErr kind sym add place = 4 ∧ valNum kind sym add place = 0) ∨
      (kind = 5 ∧ (sym + add - place) % 2 = 0 ∧ valErr kind sym add place = 0 ∧ valNum kind sym add place = ((sym + add - place) / 2) % 16777216))) := by
  by_cases h0 : width kind = 0
  · exact .inl ⟨h0, by simp [valErr, h0], by simp [valNum, valErr, h0]⟩
  cases hr : valRange sym add place
  · exact .inr (.inl ⟨h0, rfl, by simp [valErr, h0, hr], by simp [valNum, valErr, h0, hr]⟩)
  refine .inr (.inr ⟨rfl, ?_⟩)
  rcases width_cases kind with ⟨rfl, h⟩ | ⟨rfl, h⟩ | ⟨rfl, h⟩ | ⟨rfl, h⟩ | ⟨rfl, h⟩ | ⟨h1, h2, h3, h4, h5, h⟩
  · have e : valErr 1 sym add place = 0 := by simp [valErr, h, hr]
    exact .inl ⟨rfl, e, by simp [valNum, e, rawVal]⟩
  · have e : valErr 2 sym add place = 0 := by simp [valErr, h, hr]
    exact .inr (.inl ⟨rfl, e, by simp [valNum, e, rawVal]⟩)
  · have e : valErr 3 sym add place = 0 := by simp [valErr, h, hr]
    exact .inr (.inr (.inl ⟨rfl, e, by simp [valNum, e, rawVal]⟩))
  · have e : valErr 4 sym add place = 0 := by simp [valErr, h, hr]
    exact .inr (.inr (.inr (.inl ⟨rfl, e, by simp [valNum, e, rawVal]⟩)))
  · by_cases hp : (sym + add - place) % 2 = 1
    · have e : valErr 5 sym add place = 4 := by simp [valErr, h, hr, hp]
      exact .inr (.inr (.inr (.inr (.inl ⟨rfl, hp, e, by simp [valNum, e]⟩))))
    · have e : valErr 5 sym add place = 0 := by simp [valErr, h, hr]; omega
      exact .inr (.inr (.inr (.inr (.inr ⟨rfl, by omega, e, by simp [valNum, e, rawVal]⟩))))
  · exact absurd h h0

end Go.Proofs.YthmohjgdcjafkaeGreat

/- The contracts of package patch's small functions. -/
namespace Go.Proofs.YthmohjgdcjafkaeGreat
open Go.RowKit Go.PlainAid

set_option maxHeartbeats 400000 in
theorem isAddress_any (n : Int) (w : World) : Calls Tryz.prog 216 #[.int .i64 n] w fun e w' => e = .returned (.bool (betw n 0 65535)) ∧ w' = w := by
  by_cases h1 : 0 ≤ n
  · by_cases h2 : n ≤ 65535
    · rw [betw_true h1 h2]
      go_enter Tryz.func216, Tryz.ntmps216
      go_wp2
      go_ret
      exact ⟨rfl, rfl⟩
    · rw [betw_false (.inr (by omega))]
      have h3 : decide (n ≤ 65535) = false := decide_eq_false h2
      go_enter Tryz.func216, Tryz.ntmps216
      go_wp2
      go_ret
      exact ⟨rfl, rfl⟩
  · rw [betw_false (.inl (by omega))]
    have h3 : decide (0 ≤ n) = false := decide_eq_false h1
    go_enter Tryz.func216, Tryz.ntmps216
    go_wp2
    go_ret
    exact ⟨rfl, rfl⟩

def widthErr (k : Int) : Int := if width k = 0 then 7 else 0
set_option maxHeartbeats 400000 in
theorem patchWidth_any (k : Int) (w : World) : Calls Tryz.prog 206 #[.int .i64 k] w fun e w' => e = .returned (.tuple #[.int .i64 (width k), .int .i64 (widthErr k)]) ∧ w' = w := by
  have HW : Hid (∀ w, Calls Tryz.prog 140 #[.int .i64 k] w fun e w' => e = .returned (.int .i64 (width k)) ∧ w' = w) := fun w => patched_any k w
  unfold widthErr
  by_cases h : width k = 0
  · rw [if_pos h]
    rw [h] at HW ⊢
    clear h
    go_enter Tryz.func206, Tryz.ntmps206
    go_wp2_with (go_at_call 140; refine (HW.out _).mono ?_; rintro e w' ⟨rfl, rfl⟩)
    go_ret2
    exact ⟨rfl, rfl⟩
  · rw [if_neg h]
    have h0 : (width k == 0) = false := beq_eq_false_iff_ne.2 h
    clear h
    generalize width k = m at *
    go_enter Tryz.func206, Tryz.ntmps206
    go_wp2_with (go_at_call 140; refine (HW.out _).mono ?_; rintro e w' ⟨rfl, rfl⟩)
    go_ret2
    exact ⟨rfl, rfl⟩

theorem tdiv2_bd (n : Int) : n / 2 ≤ n.tdiv 2 ∧ n.tdiv 2 ≤ n / 2 + 1 := by
  rw [Int.tdiv_eq_ediv]
  split
  · omega
  · have : Int.sign 2 = 1 := rfl
    omega
theorem tdiv2_even (n : Int) (h : n % 2 = 0) : n.tdiv 2 = n / 2 := by
  rw [Int.tdiv_eq_ediv, if_pos (.inr (by omega))]
  omega
theorem tmod2_even (n : Int) : (n.tmod 2 == 0) = (n % 2 == 0) := by
  rw [Bool.eq_iff_iff, beq_iff_eq, beq_iff_eq]
  rw [Int.tmod_eq_emod]
  split
  · omega
  · have : (Int.natAbs 2 : Int) = 2 := rfl
    omega
theorem and_low (s : Int) (h0 : 0 ≤ s) (h1 : s ≤ 131070) : bits .and .i64 s 65535 = s % 65536 := by
  have h := bits_mask .i64 63 (by decide) (fun n a b => by rw [IntKind.wrap_i64]; omega) 16 (by decide) s h0 (by omega)
  have e : ((2 : Int) ^ 16 - 1) = 65535 := by decide
  have e2 : ((2 : Int) ^ 16) = 65536 := by decide
  rwa [e, e2] at h

set_option maxHeartbeats 400000 in
theorem half_any (far : Int) (h0 : -65535 ≤ far) (h1 : far ≤ 131070) (w : World) : Calls Tryz.prog 230 #[.int .i64 far] w fun e w' => e = .returned (.tuple #[.int .i64 (far.tdiv 2), .bool (far.tmod 2 == 0)]) ∧ w' = w := by
  have b2 := tdiv2_bd far
  have b0 : -8388608 ≤ far.tdiv 2 := by omega
  have b1 : far.tdiv 2 < 8388608 := by omega
  clear b2
  cases hc : far.tmod 2 == 0
  · go_enter Tryz.func230, Tryz.ntmps230
    go_wp2
    go_ret2
    exact ⟨rfl, rfl⟩
  · go_enter Tryz.func230, Tryz.ntmps230
    go_wp2
    go_ret2
    exact ⟨rfl, rfl⟩

set_option maxHeartbeats 400000 in
theorem formula1_any (s p : Int) (w : World) : Calls Tryz.prog 225 #[.int .i64 s, .int .i64 p] w fun e w' => e = .returned (.tuple #[.int .i64 s, .bool true]) ∧ w' = w := by
  go_enter Tryz.func225, Tryz.ntmps225
  go_wp2
  go_ret2
  exact ⟨rfl, rfl⟩
set_option maxHeartbeats 400000 in
theorem formula2_any (s p : Int) (h0 : 0 ≤ s) (h1 : s ≤ 131070) (h2 : 0 ≤ p) (h3 : p ≤ 65535) (w : World) : Calls Tryz.prog 226 #[.int .i64 s, .int .i64 p] w fun e w' => e = .returned (.tuple #[.int .i64 (s - p), .bool true]) ∧ w' = w := by
  go_enter Tryz.func226, Tryz.ntmps226
  go_wp2
  go_ret2
  exact ⟨rfl, rfl⟩
set_option maxHeartbeats 400000 in
theorem formula3_any (s p : Int) (w : World) : Calls Tryz.prog 227 #[.int .i64 s, .int .i64 p] w fun e w' => e = .returned (.tuple #[.int .i64 (s / 65536), .bool true]) ∧ w' = w := by
  go_enter Tryz.func227, Tryz.ntmps227
  go_wp2
  go_ret2
  exact ⟨rfl, rfl⟩
set_option maxHeartbeats 400000 in
theorem formula4_any (s p : Int) (h0 : 0 ≤ s) (h1 : s ≤ 131070) (w : World) : Calls Tryz.prog 228 #[.int .i64 s, .int .i64 p] w fun e w' => e = .returned (.tuple #[.int .i64 (s % 65536), .bool true]) ∧ w' = w := by
  go_enter Tryz.func228, Tryz.ntmps228
  go_wp2
  go_ret2
  exact ⟨by rw [← and_low s h0 h1]; rfl, rfl⟩
set_option maxHeartbeats 400000 in
theorem formula5_any (s p : Int) (h0 : 0 ≤ s) (h1 : s ≤ 131070) (h2 : 0 ≤ p) (h3 : p ≤ 65535) (w : World) : Calls Tryz.prog 229 #[.int .i64 s, .int .i64 p] w fun e w' => e = .returned (.tuple #[.int .i64 ((s - p).tdiv 2), .bool ((s - p).tmod 2 == 0)]) ∧ w' = w := by
  have HH : Hid (∀ w, Calls Tryz.prog 230 #[.int .i64 (s - p)] w fun e w' => e = .returned (.tuple #[.int .i64 ((s - p).tdiv 2), .bool ((s - p).tmod 2 == 0)]) ∧ w' = w) := fun w => half_any (s - p) (by omega) (by omega) w
  go_enter Tryz.func229, Tryz.ntmps229
  go_wp2_with (go_at_call 230; refine (HH.out _).mono ?_; rintro e w' ⟨rfl, rfl⟩)
  go_ret2
  exact ⟨rfl, rfl⟩

end Go.Proofs.YthmohjgdcjafkaeGreat

/- The contracts of patch.formulas, formulaOf. -/
namespace Go.Proofs.YthmohjgdcjafkaeGreat
open Go.RowKit Go.PlainAid

def formulaRow : Array Value := #[.int .i64 1, .func (.func 225) #[] #[], .int .i64 2, .func (.func 226) #[] #[], .int .i64 3, .func (.func 227) #[] #[], .int .i64 4, .func (.func 228) #[] #[], .int .i64 5, .func (.func 229) #[] #[]]

set_option maxHeartbeats 400000 in
theorem formulas_any (w : World) : Calls Tryz.prog 221 #[] w fun e w' => e = .returned (.slice (some ⟨w.heap.size, 0, none⟩) 5 5) ∧ w' = w.alloc (.cells formulaRow 250) := by
  go_enter Tryz.func221, Tryz.ntmps221
  go_wp2
  go_ret
  exact ⟨rfl, rfl⟩

set_option maxHeartbeats 400000 in
theorem isKind_any (B : Nat) (k K : Int) (f : Value) (w : World) (hlt : B < w.heap.size) (hB : w.cell? ⟨B, 0, none⟩ = some (.int .i64 k)) : Calls Tryz.prog 223 #[.agg #[.int .i64 K, f], .pointer (some ⟨B, 0, none⟩)] w fun e w' => e = .returned (.bool (K == k)) ∧ Below w.heap.size w w' := by
  go_enter Tryz.func223, Tryz.ntmps223
  go_wp2
  trace_state
  go_ret
  exact ⟨rfl, (Below.refl _ _).alloc (Nat.le_refl _) _⟩

end Go.Proofs.YthmohjgdcjafkaeGreat

/- Memory that is cells. -/
namespace Go.Proofs.YthmohjgdcjafkaeGreat
open Go.RowKit Go.PlainAid Go.Lib

/-- Block B holds just these. -/
def CellsAt (W : World) (B : Nat) (t : TypeId) (cs : Array Value) : Prop := W.heap[B]? = some (.cells cs t (0, 0))
theorem CellsAt.lt {W : World} {B : Nat} {t : TypeId} {cs : Array Value} (h : CellsAt W B t cs) : B < W.heap.size := (Array.getElem?_eq_some_iff.1 h).1
theorem CellsAt.cell {W : World} {B : Nat} {t : TypeId} {cs : Array Value} (h : CellsAt W B t cs) (i : Nat) : W.cell? ⟨B, i, none⟩ = cs[i]? := by
  simp [World.cell?, show W.heap[B]? = _ from h]
theorem CellsAt.frozen {W : World} {B : Nat} {t : TypeId} {cs : Array Value} (h : CellsAt W B t cs) (i : Nat) : W.frozen? ⟨B, i, none⟩ = false := by
  simp [World.frozen?, show W.heap[B]? = _ from h]
theorem CellsAt.new (W : World) (t : TypeId) (cs : Array Value) : CellsAt (W.alloc (.cells cs t)) W.heap.size t cs := World.alloc_heap_new W _
theorem CellsAt.kept {W W' : World} {row : Option Nat} {B : Nat} {t : TypeId} {cs : Array Value} (h : CellsAt W B t cs) (hg : W.grownBy W' row) (hne : some B ≠ row) : CellsAt W' B t cs := (hg.block B h.lt hne).trans h
theorem CellsAt.below {W W' : World} {B n : Nat} {t : TypeId} {cs : Array Value} (h : CellsAt W B t cs) (hb : Below n W W') (hn : B < n) : CellsAt W' B t cs := (hb.block B hn).trans h
theorem CellsAt.set {W : World} {B : Nat} {t : TypeId} {cs : Array Value} (i : Nat) (v : Value) (h : CellsAt W B t cs) : CellsAt (W.setCell ⟨B, i, none⟩ v) B t (cs.setIfInBounds i v) := by
  obtain ⟨hlt, hk⟩ := Array.getElem?_eq_some_iff.1 h
  show (W.heap.modify B _)[B]? = _
  rw [Array.getElem?_eq_getElem (by rw [Array.size_modify]; exact hlt), Array.getElem_modify_self, hk]
  rfl
theorem grown_set (W : World) (b i : Nat) (v : Value) : W.grownBy (W.setCell ⟨b, i, none⟩ v) (some b) :=
  ⟨rfl, rfl, rfl, by simp [World.setCell], fun k _ hne => Below.heap_setCell W ⟨b, i, none⟩ v k (fun e => hne (by rw [e]))⟩

theorem results_cell_tmp_row {P : Program} {fn : Func} {p u : Tmp} {ty : TypeId} (h : fn.results = #[.cell p ty, .tmp u]) (tmps : Array Value) (w : World) (g : Nat) (t : TypeId) (cs : Array Value) (fr : Nat × Nat) (d : TypeDesc)
    (hp : tmps.getD p undef = .pointer (some ⟨g, 0, none⟩)) (hg : w.heap[g]? = some (.cells cs t fr))
    (hu : P.underlying ty = some d) (hd : (match d with | .struct _ | .array _ _ => true | _ => false) = true) (hi : (P.info? ty).map (·.size) = some cs.size) :
    (results fn tmps).run P w = .ok (.tuple #[.agg cs, tmps.getD u undef]) w := by
  rw [results_cell_tmp h, hp]
  simp [asAddr, run_loadVar_row w g t ty cs fr d hg hu hd hi]

def expC (e : Exp) : List Value := [.string e.name, .int .i64 e.pos]
def impC (i : Imp) : List Value := [.string i.mod, .string i.name, .int .i64 i.major, .int .i64 i.minor]
def patC (p : Pat) : List Value := [.int .i64 p.kind, .int .i64 p.pos, .int .i64 p.sym, .int .i64 p.add]

theorem flat_at {α : Type} {C : α → List Value} {sz : Nat} (hC : ∀ x, (C x).length = sz) : ∀ (l : List α) (j : Nat) (x : α) (i : Nat), l[j]? = some x → i < sz → (l.flatMap C)[j * sz + i]? = (C x)[i]?
  | [], j, x, i, h, _ => by simp at h
  | y :: l, 0, x, i, h, hi => by
    obtain rfl : y = x := by simpa using h
    rw [List.flatMap_cons, Nat.zero_mul, Nat.zero_add, List.getElem?_append_left (by rw [hC]; exact hi)]
  | y :: l, j + 1, x, i, h, hi => by
    rw [List.flatMap_cons, List.getElem?_append_right (by rw [hC, Nat.succ_mul]; omega), hC]
    have := flat_at hC l j x i (by simpa using h) hi
    rwa [show (j + 1) * sz + i - sz = j * sz + i by rw [Nat.succ_mul]; omega]

theorem rowOf_cells {α : Type} {C : α → List Value} {cells : α → Nat → Value} {sz : Nat} (hC : ∀ x, (C x).length = sz) (hc : ∀ x i, i < sz → (C x)[i]? = some (cells x i)) {W : World} {B : Nat} {t : TypeId} {cs : Array Value} (h : CellsAt W B t cs)
    (l : List α) (hl : l.length ≤ 255) (cap : Nat) (hcs : cs.toList = l.flatMap C) : RowOf sz cells W.heap.size W (.slice (some ⟨B, 0, none⟩) l.length cap) l := by
  refine ⟨_, cap, rfl, by omega, .inr ⟨B, 0, rfl, h.lt, fun j x hj i hi => ?_⟩⟩
  rw [Nat.zero_add, h.cell]
  have h1 := flat_at hC l j x i hj hi
  rw [hc x i hi, ← hcs] at h1
  simpa using h1
theorem expC_at (x : Exp) (i : Nat) (hi : i < 2) : (expC x)[i]? = some (Exp.cell x i) := by
  have : i = 0 ∨ i = 1 := by omega
  rcases this with rfl | rfl <;> rfl
theorem impC_at (x : Imp) (i : Nat) (hi : i < 4) : (impC x)[i]? = some (Imp.cell x i) := by
  have : i = 0 ∨ i = 1 ∨ i = 2 ∨ i = 3 := by omega
  rcases this with rfl | rfl | rfl | rfl <;> rfl
theorem patC_at (x : Pat) (i : Nat) (hi : i < 4) : (patC x)[i]? = some (Pat.cell x i) := by
  have : i = 0 ∨ i = 1 ∨ i = 2 ∨ i = 3 := by omega
  rcases this with rfl | rfl | rfl | rfl <;> rfl

end Go.Proofs.YthmohjgdcjafkaeGreat
