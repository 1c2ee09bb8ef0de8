/- The contract of strings.Join with nothing between, over the library's. -/
import Derived.Shelf.Strings.OnBuilder
import Derived.Ground.NamesProg
import Derived.Test.YtnomapbiklfciafFlM
namespace Go.Proofs.Ytnomapbiklfciaf
open Go.Shelf Go.RowKit

set_option maxRecDepth 100000

def joinL_ren : Go.Shelf.Ren := ⟨fun | 156 => 28 | 165 => 43 | 166 => 44 | 169 => 45 | 240 => 57 | 241 => 58 | 276 => 61 | 277 => 47 | n => n, fun | 0 => 0 | 3 => 3 | 4 => 4 | 9 => 9 | 20 => 20 | 31 => 22 | 37 => 57 | 70 => 76 | 72 => 78 | 75 => 81 | 76 => 82 | 127 => 99 | 164 => 106 | 5 => 5 | 80 => 84 | n => n, fun | n => n⟩
theorem joinL : Go.Proofs.Lays.n156 Try.prog joinL_ren := {
  mixed := by kernel_rfl
  f156 := Try.func28.trans (congrArg some (by kernel_rfl))
  f165 := Try.func43.trans (congrArg some (by kernel_rfl))
  f166 := Try.func44.trans (congrArg some (by kernel_rfl))
  f169 := Try.func45.trans (congrArg some (by kernel_rfl))
  f240 := Try.func57.trans (congrArg some (by kernel_rfl))
  f241 := Try.func58.trans (congrArg some (by kernel_rfl))
  f276 := Try.func61.trans (congrArg some (by kernel_rfl))
  f277 := Try.func47.trans (congrArg some (by kernel_rfl))
  t0 := Try.underlying0
  a0 := Try.isAgg0
  z0 := Try.sizeOf0
  v0 := Try.zeroValue0
  t3 := Try.underlying3
  a3 := Try.isAgg3
  z3 := Try.sizeOf3
  v3 := Try.zeroValue3
  t4 := Try.underlying4
  a4 := Try.isAgg4
  z4 := Try.sizeOf4
  v4 := Try.zeroValue4
  t9 := Try.underlying9
  a9 := Try.isAgg9
  z9 := Try.sizeOf9
  v9 := Try.zeroValue9
  t20 := Try.underlying20
  a20 := Try.isAgg20
  z20 := Try.sizeOf20
  v20 := Try.zeroValue20
  t31 := Try.underlying22
  a31 := Try.isAgg22
  z31 := Try.sizeOf22
  v31 := Try.zeroValue22
  t37 := Try.underlying57
  a37 := Try.isAgg57
  z37 := Try.sizeOf57
  v37 := Try.zeroValue57
  t70 := Try.underlying76
  a70 := Try.isAgg76
  z70 := Try.sizeOf76
  v70 := Try.zeroValue76
  t72 := Try.underlying78
  a72 := Try.isAgg78
  z72 := Try.sizeOf78
  v72 := Try.zeroValue78
  t75 := Try.underlying81
  a75 := Try.isAgg81
  z75 := Try.sizeOf81
  v75 := Try.zeroValue81
  t76 := Try.underlying82
  a76 := Try.isAgg82
  z76 := Try.sizeOf82
  v76 := Try.zeroValue82
  t127 := Try.underlying99
  a127 := Try.isAgg99
  z127 := Try.sizeOf99
  v127 := Try.zeroValue99
  t164 := Try.underlying106
  a164 := Try.isAgg106
  z164 := Try.sizeOf106
  v164 := Try.zeroValue106 }

theorem joinX : Builder.Extra Try.prog joinL_ren where
  sizeBuilder := by kernel_rfl
  liesBuilder := by kernel_rfl
  t5 := Try.underlying5
  a5 := Try.isAgg5
  z5 := Try.sizeOf5
  v5 := Try.zeroValue5
  infoByte := by kernel_rfl
  cellsByte := by kernel_rfl
  sizeByte := by kernel_rfl
  neB5 := by decide

theorem joinTail_nil (l : List (List UInt8)) : Lib.joinTail [] l = l.flatten := by simp [Lib.joinTail]
theorem join_nil (l : List (List UInt8)) : Lib.join l [] = l.flatten := by
  cases l with
  | nil => rfl
  | cons x l => rw [Lib.join_cons, joinTail_nil, List.flatten_cons]
theorem join_blocks (F : List ByteArray) : Lib.join (F.map (·.data.toList)) (⟨#[]⟩ : ByteArray).data.toList = joinM F := by
  rw [show (⟨#[]⟩ : ByteArray).data.toList = [] from rfl, join_nil]
  unfold joinM
  rw [List.flatMap_def]

theorem joinStr_any (F : List ByteArray) (v : Value) (w : World) (hF : RowOf 1 strCell w.heap.size w v F) (hb : (joinM F).length ≤ 140737488355328) (hN : F.length ≤ 140737488355328) (hcap : ∀ a n c, v = .slice a n c → n ≤ c) :
    Calls Try.prog 28 #[v, .string ⟨#[]⟩] w fun e w' => e = .returned (.string ⟨(joinM F).toArray⟩) ∧ Below w.heap.size w w' := by
  obtain ⟨a, cap, rfl, hmx, hrow⟩ := hF
  rcases hrow with rfl | ⟨b, off, rfl, hbn, hcells⟩
  · have h := Any.strings_Join_none joinL joinX a cap ⟨#[]⟩ w
    refine h.mono fun e w' ⟨he, hw⟩ => ⟨?_, hw ▸ Below.refl _ _⟩
    rw [he]
    rfl
  · have h := Any.strings_Join joinL joinX b off cap F ⟨#[]⟩ w (fun j x hx => by have := hcells j x hx 0 (by omega); simpa [strCell] using this) hbn hN (hcap _ _ _ rfl) (by rw [join_blocks]; exact hb)
    rw [join_blocks] at h
    exact h

end Go.Proofs.Ytnomapbiklfciaf
