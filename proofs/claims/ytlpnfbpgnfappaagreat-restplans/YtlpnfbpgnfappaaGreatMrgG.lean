/- Texts that are laid together. -/
import Derived.Test.YtlpnfbpgnfappaaGreatMrgC
import Derived.ArgAppend
import Derived.Shelf.SlIter.Nil
import Derived.Shelf.SortM.Plain
import Derived.Shelf.SortM.SortNone
import Derived.Ground.GgzProg
import Derived.Ground.SlgmProg
import Derived.Shelf.SlGeneric
import Derived.Test.YtlpnfbpgnfappaaGreatProg
import Derived.Test.YtlpnfbpgnfappaaGreatMrgF
import Derived.Sort.KeysCollected
import Derived.Laws.EntriesVeiled
import Derived.Test.YtlpnfbpgnfappaaGreatMrgE
set_option maxHeartbeats 256000000
set_option maxRecDepth 100000

namespace Go.Proofs.YtlpnfbpgnfappaaGreat
open Go.RowKit Go.PlainAid
def QRow (W:World) (base:Nat) (v:Value) (xs:List Nat):Prop:=∃ g o cap cur,v=.slice (some ⟨g,o,none⟩) xs.length cap∧base≤g∧Za W g 3 cur∧xs.length≤cap∧o+cap≤cur.size∧cap≤9223372036854775807∧∀ (j x:Nat),xs[j]?=some x→cur[o+j]?=some (.int .i64 x)
theorem QRow.kept {W W':World} {base:Nat} {v:Value} {xs:List Nat} {row:Option Nat} (h:QRow W base v xs) (hg:W.grownBy W' row) (hne:∀ g,v.ownBlock=some g→some g≠row):QRow W' base v xs:=by
 obtain ⟨g,o,cap,cur,rfl,h1,h2,h3⟩:=h;exact ⟨g,o,cap,cur,rfl,h1,h2.kept hg (hne g rfl),h3⟩
theorem QRow.below {W W':World} {base n:Nat} {v:Value} {xs:List Nat} (h:QRow W base v xs) (hb:Below n W W') (hn:W.heap.size≤n):QRow W' base v xs:=by
 obtain ⟨g,o,cap,cur,rfl,h1,h2,h3⟩:=h;exact ⟨g,o,cap,cur,rfl,h1,h2.below hb (Nat.lt_of_lt_of_le h2.lt hn),h3⟩
theorem QRow.base {W:World} {base:Nat} {v:Value} {xs:List Nat} (h:QRow W base v xs):∀ g,v.ownBlock=some g→base≤g∧g<W.heap.size:=by
 obtain ⟨g,o,cap,cur,rfl,h1,h2,h3⟩:=h;intro k hk
 have:g=k:=by simpa [Value.ownBlock] using hk
 subst this;exact ⟨h1,h2.lt⟩
theorem QRow.form {W:World} {base:Nat} {v:Value} {xs:List Nat} (h:QRow W base v xs):∃ g o cap,v=.slice (some ⟨g,o,none⟩) xs.length cap∧xs.length≤cap∧cap≤9223372036854775807∧g<W.heap.size:=by
 obtain ⟨g,o,cap,cur,rfl,h1,h2,h3,h4,h5,_⟩:=h;exact ⟨g,o,cap,rfl,h3,h5,h2.lt⟩
theorem QRow.pop {W:World} {base g o cap:Nat} {x:Nat} {xs:List Nat} (h:QRow W base (.slice (some ⟨g,o,none⟩) (x::xs).length cap) (x::xs)) :
  W.cell? ⟨g,o,none⟩=some (.int .i64 x)∧∃ o2,(if cap=1 then some (⟨g,o,none⟩:Addr) else some ⟨g,o+1,none⟩)=some ⟨g,o2,none⟩∧QRow W base (.slice (some ⟨g,o2,none⟩) xs.length (cap-1)) xs:=by
 obtain ⟨g',o',cap',cur,he,h1,h2,h3,h4,h5,h6⟩:=h;injection he with q1 q2 q3;injection q1 with q1;injection q1 with q1 q4;subst q1 q3 q4;have c0:=h2.cell o;have h60:=h6 0 x rfl;rw [Nat.add_zero] at h60;refine ⟨c0.trans h60,?_⟩;simp at h3
 by_cases hc:cap=1
 ·obtain rfl:xs=[]:=List.length_eq_zero_iff.1 (by omega)
  exact ⟨o,by rw [if_pos hc],g,o,cap-1,cur,rfl,h1,h2,by simp,by omega,by omega,fun j y hj=>by simp at hj⟩
 ·refine ⟨o+1,by rw [if_neg hc],g,o+1,cap-1,cur,rfl,h1,h2,by omega,by omega,by omega,fun j y hj=>?_⟩
  have:=h6 (j+1) y (by simpa using hj)
  rw [show o+1+j=o+(j+1) by omega];exact this
theorem wpList_queue (w:World) {ops:Array Oper} {rest:List Oper} {o:Oper} {a:Act} {Q:Exit→Act→World→Prop}
  (hg:o.guard=none) (s x:Operand) (hop:o.op=Op.call { callee:=Callee.builtin Builtin.append,args:=#[s,x],argTypes:=#[64,64] })
  (base:Nat) (v:Value) (xs:List Nat) (hs:a.eval s=v) (hq:QRow w base v xs) (B:Nat) (y:Nat) (hx:a.eval x=.slice (some ⟨B,0,none⟩) 1 1) (hB:w.cell? ⟨B,0,none⟩=some (.int .i64 y)) (hl:xs.length≤1000) (hbase:base≤w.heap.size)
  (h:∀ v' w',QRow w' base v' (xs++[y])→w.grownBy w' v.ownBlock→(∀ k,v'.ownBlock=some k→v.ownBlock=some k∨w.heap.size≤k)→wpList Tryz.prog ops Q rest (a.put o.dst v') w'):wpList Tryz.prog ops Q (o::rest) a w:=by
 obtain ⟨ii,hii,hz0,hz1,hz2⟩:=infoInt_parts;obtain ⟨g,of,cap,cur,rfl,h1,h2,h3,h4,h5,h6⟩:=hq;refine wpList_append_arg (P:=Tryz.prog) w hg s x 64 hop 3 ii (.int .i64 0) 1 8 Tryz.underlying64 hii hz0 hz1 hz2 rfl (by omega) g of xs.length cap (xs.map fun n:Nat=>Value.int .i64 (n:Int)) hs (by simp) ?_ ⟨B,0,none⟩ 1 1 [.int .i64 (y:Int)] hx rfl ?_ (by simp [Value.oneCell']) ?_ (by unfold maxLen;omega) (by omega) ?_ ?_
 ·intro j u hj
  rw [List.getElem?_map] at hj;obtain ⟨n,hn,rfl⟩:=Option.map_eq_some_iff.1 hj;exact (h2.cell (of+j)).trans (h6 j n hn)
 ·intro j u hj
  cases j with
  | zero=>
   simp at hj;subst hj;exact hB
  | succ j=>simp at hj
 ·intro hr j hj
  simp at hj;subst hj;refine ⟨?_,h2.frozen _⟩;rw [h2.cell]
  have:of+xs.length*1+0<cur.size:=by omega
  rw [Array.getElem?_eq_getElem this]
  rfl
 ·intro hr
  have e1:w.setCells g (of+xs.length*1) [.int .i64 (y:Int)]=w.setCell ⟨g,of+xs.length,none⟩ (.int .i64 (y:Int)):=by simp [World.setCells]
  rw [e1];refine h _ _ ⟨g,of,cap,cur.setIfInBounds (of+xs.length) (.int .i64 (y:Int)),by simp,h1,h2.set _ _,by simp;omega,by simpa using h4,h5,?_⟩ (Zai _ _ _ _) (fun k hk=>.inl hk);intro j n hj;rw [Array.getElem?_setIfInBounds]
  by_cases hjl:j=xs.length
  ·subst hjl
   rw [if_pos rfl,if_pos (by omega)];simp at hj;rw [hj]
  ·rw [if_neg (by omega)]
   have hj':j<xs.length:=by
    have:=(List.getElem?_eq_some_iff.1 hj).1
    simp at this
    omega
   exact h6 j n (by rw [List.getElem?_append_left hj'] at hj;exact hj)
 ·intro hr v' w' hown hgr
  refine h v' w' ?_ (hgr.but _) (fun k hk=>.inr (ZaP hown k hk))
  rcases hown.2 with ⟨_,h0⟩ | ⟨g',cap',cur',rfl,hg',hb',hn',hm',hs',ht'⟩
  ·omega
  ·refine ⟨g',0,cap',cur',by simp,by omega,hb',by simp;omega,by omega,by unfold maxLen at hm';omega,?_⟩
   intro j n hj;have hjl:j<xs.length+1:=by
    have:=(List.getElem?_eq_some_iff.1 hj).1
    simpa using this
   have e2:(xs.map fun n:Nat=>Value.int .i64 (n:Int))++[.int .i64 (y:Int)]=(xs++[y]).map fun n:Nat=>Value.int .i64 (n:Int):=by simp
   rw [e2] at ht';have h7:((xs++[y]).map fun n:Nat=>Value.int .i64 (n:Int))[j]?=some (.int .i64 (n:Int)):=by rw [List.getElem?_map,hj];rfl
   rw [← ht',List.getElem?_take,if_pos (by omega)] at h7;rw [Nat.zero_add]
   simpa using h7
end Go.Proofs.YtlpnfbpgnfappaaGreat
namespace Go.Proofs.YtlpnfbpgnfappaaGreat
open Go.Shelf Go.RowKit Go.Maps Go.Sort
def keysL_ren:Go.Shelf.Ren:=⟨fun | 7=>155 | 10=>180 | n=>n,fun | 23=>171 | 26=>9 | 3=>3 | 28=>182 | 0=>0 | 27=>181 | 33=>141 | 4=>4 | n=>n,fun | n=>n⟩
theorem keysL:Go.Proofs.SlLaysZ.n7 Tryz.prog keysL_ren:={
 mixed:=by kernel_rfl
 f7:=⟨Tryz.f155.name,by decide,Tryz.func155.trans (congrArg some (by kernel_rfl))⟩
 f10:=⟨Tryz.f180.name,by decide,Tryz.func180.trans (congrArg some (by kernel_rfl))⟩
 t0:=Tryz.underlying0
 a0:=Tryz.isAgg0
 z0:=Tryz.sizeOf0
 v0:=Tryz.zeroValue0
 t4:=Tryz.underlying4
 a4:=Tryz.isAgg4
 z4:=Tryz.sizeOf4
 v4:=Tryz.zeroValue4
 t23:=Tryz.underlying171
 a23:=Tryz.isAgg171
 z23:=Tryz.sizeOf171
 v23:=Tryz.zeroValue171
 t26:=Tryz.underlying9
 a26:=Tryz.isAgg9
 z26:=Tryz.sizeOf9
 v26:=Tryz.zeroValue9
 t27:=Tryz.underlying181
 a27:=Tryz.isAgg181
 z27:=Tryz.sizeOf181
 v27:=Tryz.zeroValue181
 t28:=Tryz.underlying182
 a28:=Tryz.isAgg182
 z28:=Tryz.sizeOf182
 v28:=Tryz.zeroValue182
 t33:=Tryz.underlying141
 a33:=Tryz.isAgg141
 z33:=Tryz.sizeOf141
 v33:=Tryz.zeroValue141 }
def sortedL_ren:Go.Shelf.Ren:=⟨fun | 6=>154 | 8=>178 | 9=>179 | 11=>202 | 13=>175 | 12=>203 | 23=>198 | 24=>199 | 14=>220 | 15=>221 | 16=>222 | 17=>223 | 18=>224 | 19=>225 | 20=>226 | 21=>227 | 22=>228 | 25=>236 | 26=>216 | 27=>217 | 28=>237 | 29=>238 | 30=>239 | 31=>244 | n=>n,fun | 26=>9 | 28=>182 | 24=>67 | 0=>0 | 3=>3 | 37=>204 | 48=>224 | 50=>226 | 4=>4 | 40=>218 | 39=>217 | 45=>172 | 5=>5 | 9=>9 | 51=>245 | 55=>249 | 57=>260 | 58=>261 | 33=>141 | n=>n,fun | n=>n⟩
theorem sortedL:Go.Proofs.SlLaysZ.n6 Tryz.prog sortedL_ren:={
 mixed:=by kernel_rfl
 f6:=⟨Tryz.f154.name,by decide,Tryz.func154.trans (congrArg some (by kernel_rfl))⟩
 f8:=⟨Tryz.f178.name,by decide,Tryz.func178.trans (congrArg some (by kernel_rfl))⟩
 f11:=⟨Tryz.f202.name,by decide,Tryz.func202.trans (congrArg some (by kernel_rfl))⟩
 t0:=Tryz.underlying0
 a0:=Tryz.isAgg0
 z0:=Tryz.sizeOf0
 v0:=Tryz.zeroValue0
 t24:=Tryz.underlying67
 a24:=Tryz.isAgg67
 z24:=Tryz.sizeOf67
 v24:=Tryz.zeroValue67
 t26:=Tryz.underlying9
 a26:=Tryz.isAgg9
 z26:=Tryz.sizeOf9
 v26:=Tryz.zeroValue9
 t28:=Tryz.underlying182
 a28:=Tryz.isAgg182
 z28:=Tryz.sizeOf182
 v28:=Tryz.zeroValue182
 i26:=by kernel_rfl }
def sortL_ren:Go.Shelf.Ren:=⟨fun | 6=>179 | 8=>175 | 9=>203 | 19=>198 | 20=>199 | 21=>220 | 22=>221 | 23=>222 | 24=>223 | 25=>224 | 26=>225 | 27=>226 | 28=>227 | 29=>228 | 36=>236 | 31=>216 | 32=>217 | 37=>237 | 38=>238 | 39=>239 | 41=>244 | n=>n,fun | 27=>67 | 29=>9 | 3=>3 | 32=>204 | 26=>67 | 0=>0 | 44=>224 | 46=>226 | 4=>4 | 36=>218 | 35=>217 | 41=>172 | 5=>5 | 9=>9 | 53=>245 | 57=>249 | 63=>260 | 64=>261 | n=>n,fun | n=>n⟩
theorem sortL:Go.Proofs.SlLaysM.n6 Tryz.prog sortL_ren:={
 mixed:=by kernel_rfl
 f6:=⟨Tryz.f179.name,by decide,Tryz.func179.trans (congrArg some (by kernel_rfl))⟩
 f8:=Tryz.func175.trans (congrArg some (by kernel_rfl))
 f9:=⟨Tryz.f203.name,by decide,Tryz.func203.trans (congrArg some (by kernel_rfl))⟩
 f19:=Tryz.func198.trans (congrArg some (by kernel_rfl))
 f20:=Tryz.func199.trans (congrArg some (by kernel_rfl))
 f21:=⟨Tryz.f220.name,by decide,Tryz.func220.trans (congrArg some (by kernel_rfl))⟩
 f22:=⟨Tryz.f221.name,by decide,Tryz.func221.trans (congrArg some (by kernel_rfl))⟩
 f23:=⟨Tryz.f222.name,by decide,Tryz.func222.trans (congrArg some (by kernel_rfl))⟩
 f24:=⟨Tryz.f223.name,by decide,Tryz.func223.trans (congrArg some (by kernel_rfl))⟩
 f25:=⟨Tryz.f224.name,by decide,Tryz.func224.trans (congrArg some (by kernel_rfl))⟩
 f26:=⟨Tryz.f225.name,by decide,Tryz.func225.trans (congrArg some (by kernel_rfl))⟩
 f27:=⟨Tryz.f226.name,by decide,Tryz.func226.trans (congrArg some (by kernel_rfl))⟩
 f28:=⟨Tryz.f227.name,by decide,Tryz.func227.trans (congrArg some (by kernel_rfl))⟩
 f29:=⟨Tryz.f228.name,by decide,Tryz.func228.trans (congrArg some (by kernel_rfl))⟩
 f31:=Tryz.func216.trans (congrArg some (by kernel_rfl))
 f32:=Tryz.func217.trans (congrArg some (by kernel_rfl))
 f36:=⟨Tryz.f236.name,by decide,Tryz.func236.trans (congrArg some (by kernel_rfl))⟩
 f37:=⟨Tryz.f237.name,by decide,Tryz.func237.trans (congrArg some (by kernel_rfl))⟩
 f38:=⟨Tryz.f238.name,by decide,Tryz.func238.trans (congrArg some (by kernel_rfl))⟩
 f39:=⟨Tryz.f239.name,by decide,Tryz.func239.trans (congrArg some (by kernel_rfl))⟩
 f41:=⟨Tryz.f244.name,by decide,Tryz.func244.trans (congrArg some (by kernel_rfl))⟩
 t0:=Tryz.underlying0
 a0:=Tryz.isAgg0
 z0:=Tryz.sizeOf0
 v0:=Tryz.zeroValue0
 t3:=Tryz.underlying3
 a3:=Tryz.isAgg3
 z3:=Tryz.sizeOf3
 v3:=Tryz.zeroValue3
 t4:=Tryz.underlying4
 a4:=Tryz.isAgg4
 z4:=Tryz.sizeOf4
 v4:=Tryz.zeroValue4
 t5:=Tryz.underlying5
 a5:=Tryz.isAgg5
 z5:=Tryz.sizeOf5
 v5:=Tryz.zeroValue5
 t9:=Tryz.underlying9
 a9:=Tryz.isAgg9
 z9:=Tryz.sizeOf9
 v9:=Tryz.zeroValue9
 t26:=Tryz.underlying67
 a26:=Tryz.isAgg67
 z26:=Tryz.sizeOf67
 v26:=Tryz.zeroValue67
 t27:=Tryz.underlying67
 a27:=Tryz.isAgg67
 z27:=Tryz.sizeOf67
 v27:=Tryz.zeroValue67
 t29:=Tryz.underlying9
 a29:=Tryz.isAgg9
 z29:=Tryz.sizeOf9
 v29:=Tryz.zeroValue9
 t32:=Tryz.underlying204
 a32:=Tryz.isAgg204
 z32:=Tryz.sizeOf204
 v32:=Tryz.zeroValue204
 t35:=Tryz.underlying217
 a35:=Tryz.isAgg217
 z35:=Tryz.sizeOf217
 v35:=Tryz.zeroValue217
 t36:=Tryz.underlying218
 a36:=Tryz.isAgg218
 z36:=Tryz.sizeOf218
 v36:=Tryz.zeroValue218
 t41:=Tryz.underlying172
 a41:=Tryz.isAgg172
 z41:=Tryz.sizeOf172
 v41:=Tryz.zeroValue172
 t44:=Tryz.underlying224
 a44:=Tryz.isAgg224
 z44:=Tryz.sizeOf224
 v44:=Tryz.zeroValue224
 t46:=Tryz.underlying226
 a46:=Tryz.isAgg226
 z46:=Tryz.sizeOf226
 v46:=Tryz.zeroValue226
 t53:=Tryz.underlying245
 a53:=Tryz.isAgg245
 z53:=Tryz.sizeOf245
 v53:=Tryz.zeroValue245
 t57:=Tryz.underlying249
 a57:=Tryz.isAgg249
 z57:=Tryz.sizeOf249
 v57:=Tryz.zeroValue249
 t63:=Tryz.underlying260
 a63:=Tryz.isAgg260
 z63:=Tryz.sizeOf260
 v63:=Tryz.zeroValue260
 t64:=Tryz.underlying261
 a64:=Tryz.isAgg261
 z64:=Tryz.sizeOf261
 v64:=Tryz.zeroValue261 }
theorem sortsL (m:Nat):AnyZ.SortsIn Tryz.prog sortedL_ren Fence.wide m:=
 ⟨fun blk off cap ss W hH hblk hsz=>callsIn_wide.2 (AnyM.slices_Sort_string sortL blk off cap ss W hH hblk hsz),
 fun p cap W=>callsIn_wide.2 (AnyM.slices_Sort_string_none sortL p cap W)⟩
theorem keysOf_any (mb:Option Nat) (W:World):Calls Tryz.prog 155 #[.map mb] W fun e w'=>e=.returned (.func (.func 180) #[] #[.pointer (some ⟨W.heap.size,0,none⟩)])∧w'=W.alloc (.cells #[.map mb] 171):=
 (callsIn_wide (n:=5)).1 (AnyZ.keys_in keysL Fence.wide 5 trivial rfl mb W)
theorem sortedKeys_any {H:Type} (b nn:Nat) (D0:DataW H) (R:Value→Option (DataW H × List MemPlace)) (w:World) (hown:w.ownsMap Tryz.prog 9 R b nn D0) (hmax:Maps.size D0≤maxLen) (hbytes:Maps.size D0*16≤140737488355328) :
  Calls Tryz.prog 154 #[.func (.func 180) #[] #[.pointer (some ⟨w.heap.size,0,none⟩)]] (w.alloc (.cells #[.map (some b)] 171)) fun e w'=>∃ (v:Value) (ss:List (List UInt8)),e=.returned v∧ss.Perm (strKeys D0)∧
   w'.ownsRow (w.alloc (.cells #[.map (some b)] 171)).heap.size 9 1 v ss.length ((ss.mergeSort (fun x y=>decide (x≤y))).map encStr)∧(v=.slice none 0 0↔ss=[])∧Below (w.alloc (.cells #[.map (some b)] 171)).heap.size (w.alloc (.cells #[.map (some b)] 171)) w':=by
 have hbl:=hown.lt;have hseq:SeqGives Fence.wide 2 Tryz.prog 180 #[.pointer (some ⟨w.heap.size,0,none⟩)] encStr (fun ss=>ss.Perm (strKeys D0)) (Maps.size D0) (w.alloc (.cells #[.map (some b)] 171)):=
  AnyZ.keys_gives (ρ:=keysL_ren) { keysL with } Fence.wide _ trivial rfl (by omega) w.heap.size b nn D0 _ (by simp) (by simp) (by
   obtain ⟨es,clock,hb,Ft,hs,hD⟩:=hown;exact ⟨es,clock,(Below.heap_alloc _ _ b hbl).trans hb,Ft,hs,hD⟩)
 exact (callsIn_wide (n:=5)).1 (AnyZ.sorted_in sortedL Fence.wide 5 trivial trivial trivial trivial rfl (by omega) (sortsL _) (enters_of Tryz.func179 (by kernel_rfl) rfl) 180 #[.pointer (some ⟨w.heap.size,0,none⟩)] trivial (enters_of Tryz.func180 (by kernel_rfl) rfl) _ _ hmax hbytes _ hseq)
end Go.Proofs.YtlpnfbpgnfappaaGreat
namespace Go.Proofs.YtlpnfbpgnfappaaGreat
open Go.RowKit Go.PlainAid
def Next (nx:Mod→Mod→Bool) (Ms:List Mod) (i k:Nat):Prop:=∃ x y,Ms[i]?=some x∧Ms[k]?=some y∧nx x y=true
theorem Next.lt {nx:Mod→Mod→Bool} {Ms:List Mod} {i k:Nat} (h:Next nx Ms i k):i<Ms.length∧k<Ms.length:=by
 obtain ⟨x,y,h1,h2,_⟩:=h;exact ⟨(List.getElem?_eq_some_iff.1 h1).1,(List.getElem?_eq_some_iff.1 h2).1⟩
theorem Next.iff {nx:Mod→Mod→Bool} {Ms:List Mod} {i k:Nat} {x y:Mod} (hx:Ms[i]?=some x) (hy:Ms[k]?=some y):Next nx Ms i k↔nx x y=true:=by
 constructor
 ·rintro ⟨x',y',h1,h2,h3⟩
  rw [hx] at h1;rw [hy] at h2;injection h1 with h1;injection h2 with h2;subst h1 h2;exact h3
 ·exact fun h=>⟨x,y,hx,hy,h⟩
structure Come (E:Nat→Nat→Prop) (n f:Nat) (met work:List Nat):Prop where
 nodup:met.Nodup
 lt:∀ k∈met,k<n
 via:∀ k∈met,Via E f k
 wk:∀ k∈work,k=f∨k∈met
 done:∀ j,j=f∨j∈met→j∈work∨∀ k,E j k→k∈met
structure ComeIn (E:Nat→Nat→Prop) (n f j i:Nat) (met work:List Nat):Prop where
 nodup:met.Nodup
 lt:∀ k∈met,k<n
 via:∀ k∈met,Via E f k
 wk:∀ k∈work,k=f∨k∈met
 here:j=f∨j∈met
 done:∀ j',j'=f∨j'∈met→j'∈work∨j'=j∨∀ k,E j' k→k∈met
 part:∀ k,k<i→E j k→k∈met
theorem Come.start (E:Nat→Nat→Prop) (n f:Nat):Come E n f [] [f]:=
 ⟨by simp,by simp,by simp,by simp,fun j hj=>by
  rcases hj with rfl | hj
  ·exact .inl (by simp)
  ·simp at hj⟩
theorem Come.pop {E:Nat→Nat→Prop} {n f j:Nat} {met work:List Nat} (h:Come E n f met (j::work)):ComeIn E n f j 0 met work:=
 ⟨h.nodup,h.lt,h.via,fun k hk=>h.wk k (by simp [hk]),h.wk j (by simp),fun j' hj=>by
  rcases h.done j' hj with h1 | h1
  ·rcases List.mem_cons.1 h1 with h2 | h2
   ·exact .inr (.inl h2)
   ·exact .inl h2
  ·exact .inr (.inr h1),fun k hk=>by omega⟩
theorem ComeIn.skip {E:Nat→Nat→Prop} {n f j i:Nat} {met work:List Nat} (h:ComeIn E n f j i met work) (hi:i∈met∨¬ E j i):ComeIn E n f j (i+1) met work:=
 ⟨h.nodup,h.lt,h.via,h.wk,h.here,h.done,fun k hk he=>by
  by_cases hki:k=i
  ·subst hki
   rcases hi with hi | hi
   ·exact hi
   ·exact absurd he hi
  ·exact h.part k (by omega) he⟩
theorem ComeIn.add {E:Nat→Nat→Prop} {n f j i:Nat} {met work:List Nat} (h:ComeIn E n f j i met work) (hm:i ∉ met) (hi:i<n) (he:E j i):ComeIn E n f j (i+1) (met++[i]) (work++[i]):=by
 have hv:Via E f i:=by
  rcases h.here with rfl | hj
  ·exact .one he
  ·exact (h.via j hj).more he
 refine ⟨?_,?_,?_,?_,?_,?_,?_⟩
 ·rw [List.nodup_append]
  exact ⟨h.nodup,by simp,fun a ha b hb=>by rw [List.mem_singleton.1 hb];exact fun e=>hm (e ▸ ha)⟩
 ·intro k hk
  rcases List.mem_append.1 hk with hk | hk
  ·exact h.lt k hk
  ·rw [List.mem_singleton.1 hk];exact hi
 ·intro k hk
  rcases List.mem_append.1 hk with hk | hk
  ·exact h.via k hk
  ·rw [List.mem_singleton.1 hk];exact hv
 ·intro k hk
  rcases List.mem_append.1 hk with hk | hk
  ·rcases h.wk k hk with h1 | h1
   ·exact .inl h1
   ·exact .inr (by simp [h1])
  ·exact .inr (by simp [List.mem_singleton.1 hk])
 ·rcases h.here with h1 | h1
  ·exact .inl h1
  ·exact .inr (by simp [h1])
 ·intro j' hj
  by_cases hji:j'=i
  ·exact .inl (by simp [hji])
  ·have hj2:j'=f∨j'∈met:=by
    rcases hj with h1 | h1
    ·exact .inl h1
    ·rcases List.mem_append.1 h1 with h1 | h1
     ·exact .inr h1
     ·exact absurd (List.mem_singleton.1 h1) hji
   rcases h.done j' hj2 with h1 | h1 | h1
   ·exact .inl (by simp [h1])
   ·exact .inr (.inl h1)
   ·exact .inr (.inr fun k hk=>by simp [h1 k hk])
 ·intro k hk he'
  by_cases hki:k=i
  ·simp [hki]
  ·have:=h.part k (by omega) he'
   simp [this]
theorem ComeIn.fin {E:Nat→Nat→Prop} {n f j:Nat} {met work:List Nat} (h:ComeIn E n f j n met work) (hE:∀ k,E j k→k<n):Come E n f met work:=
 ⟨h.nodup,h.lt,h.via,h.wk,fun j' hj=>by
  rcases h.done j' hj with h1 | h1 | h1
  ·exact .inl h1
  ·exact .inr fun k hk=>by subst h1;exact h.part k (hE k hk) hk
  ·exact .inr h1⟩
theorem Come.all {E:Nat→Nat→Prop} {n f:Nat} {met:List Nat} (h:Come E n f met []) (k:Nat):k∈met↔Via E f k:=by
 constructor
 ·exact h.via k
 ·intro hv
  have hc:∀ j,j=f∨j∈met→∀ k,E j k→k∈met:=fun j hj=>by
   rcases h.done j hj with h1 | h1
   ·simp at h1
   ·exact h1
  exact Via.closed (S:=fun k=>k∈met) (hc f (.inl rfl)) (fun j k hj he=>hc j (.inr hj) k he) hv
theorem nodup_lt:∀ {n:Nat} {l:List Nat},l.Nodup→(∀ k∈l,k<n)→l.length≤n
 | 0,l,_,h2=>by
  cases l with
  | nil=>simp
  | cons x l=>exact absurd (h2 x (by simp)) (by omega)
 | n+1,l,h1,h2=>by
  by_cases hn:n∈l
  ·have h3:=nodup_lt (n:=n) (l:=l.erase n) (h1.erase n) (fun k hk=>by
    have:=(h1.mem_erase_iff).1 hk
    have h4:=h2 k this.2
    omega)
   rw [List.length_erase_of_mem hn] at h3
   omega
  ·have h3:=nodup_lt (n:=n) (l:=l) h1 (fun k hk=>by
    have h4:=h2 k hk
    have:k≠n:=fun e=>hn (e ▸ hk)
    omega)
   omega
theorem Come.le {E:Nat→Nat→Prop} {n f:Nat} {met work:List Nat} (h:Come E n f met work):met.length≤n:=nodup_lt h.nodup h.lt
theorem ComeIn.le {E:Nat→Nat→Prop} {n f j i:Nat} {met work:List Nat} (h:ComeIn E n f j i met work):met.length≤n:=nodup_lt h.nodup h.lt
def nameAt (Ms:List Mod) (i:Nat):ByteArray:=match Ms[i]? with | some x=>x.name | none=>⟨#[]⟩
theorem ZbT {Ms:List Mod} {i:Nat} {x:Mod} (h:Ms[i]?=some x):nameAt Ms i=x.name:=by unfold nameAt;rw [h]
theorem nameAt_inj {Ms:List Mod} (hd:(Ms.map (·.name)).Nodup) {i k:Nat} (hi:i<Ms.length) (hk:k<Ms.length) (h:nameAt Ms i=nameAt Ms k):i=k:=by
 rw [ZbT (List.getElem?_eq_getElem hi),ZbT (List.getElem?_eq_getElem hk)] at h;have h1:(Ms.map (·.name))[i]?=some Ms[i].name:=by rw [List.getElem?_map,List.getElem?_eq_getElem hi];rfl
 have h2:(Ms.map (·.name))[k]?=some Ms[k].name:=by rw [List.getElem?_map,List.getElem?_eq_getElem hk];rfl
 rw [← h] at h2;exact (List.getElem?_inj (by simpa using hi) hd).1 (h1.trans h2.symm)
theorem any_name {Ms:List Mod} (hd:(Ms.map (·.name)).Nodup) {met:List Nat} (hm:∀ k∈met,k<Ms.length) {i:Nat} (hi:i<Ms.length):((met.map (nameAt Ms)).any fun y=>y == nameAt Ms i)=true↔i∈met:=by
 rw [any_mem]
 constructor
 ·intro h
  obtain ⟨k,hk,he⟩:=List.mem_map.1 h;rw [← nameAt_inj hd (hm k hk) hi he];exact hk
 ·exact fun h=>List.mem_map_of_mem h
def ZbC (a o:Mod):Bool:=Zcw a o.name
def nxUse (a o:Mod):Bool:=Zcw o a.name
theorem next_turn {Ms:List Mod} {i k:Nat}:Next nxUse Ms i k↔Next ZbC Ms k i:=by
 constructor
 ·rintro ⟨x,y,h1,h2,h3⟩;exact ⟨y,x,h2,h1,h3⟩
 ·rintro ⟨x,y,h1,h2,h3⟩;exact ⟨y,x,h2,h1,h3⟩
theorem via_turn {Ms:List Mod} {i k:Nat}:Via (Next nxUse Ms) i k↔Via (Next ZbC Ms) k i:=by
 constructor
 ·intro h
  have:=h.turn
  exact Via.closed (S:=fun a=>Via (Next ZbC Ms) k a) (fun a ha=>.one (next_turn.1 ha)) (fun a b ha hb=>ha.more (next_turn.1 hb)) this
 ·intro h
  have:=h.turn
  exact Via.closed (S:=fun a=>Via (Next nxUse Ms) i a) (fun a ha=>.one (next_turn.2 ha)) (fun a b ha hb=>ha.more (next_turn.2 hb)) this
theorem Via.lt_of {nx:Mod→Mod→Bool} {Ms:List Mod} {i k:Nat} (h:Via (Next nx Ms) i k):i<Ms.length∧k<Ms.length:=by
 exact h.walk (M:=fun k=>i<Ms.length∧k<Ms.length) (fun _ e=>e.lt) (fun _ _ _ ih e=>⟨ih.1,e.lt.2⟩)
theorem mem_nameAt {Ms:List Mod} {i:Nat} (h:i<Ms.length):∃ m∈Ms,Ms[i]?=some m∧nameAt Ms i=m.name:=
 ⟨Ms[i],List.getElem_mem h,List.getElem?_eq_getElem h,ZbT (List.getElem?_eq_getElem h)⟩
theorem nameAt_mem {Ms:List Mod} {m:Mod} (h:m∈Ms):∃ i,i<Ms.length∧Ms[i]?=some m∧nameAt Ms i=m.name:=by
 obtain ⟨i,hi⟩:=List.getElem?_of_mem h;exact ⟨i,(List.getElem?_eq_some_iff.1 hi).1,hi,ZbT hi⟩
section
variable {Rs Ms : List Mod} (hp : Rs.Perm Ms)
include hp
theorem Zcx.via {c:List ByteArray} (h:Zcx Rs c) (hd:(Ms.map (·.name)).Nodup) {f k:Nat} (hv:Via (Next ZbC Ms) f k):∀ j,c[j]?=some (nameAt Ms f)→nameAt Ms k∈c.take j:=by
 have step:∀ a b j,Next ZbC Ms a b→c[j]?=some (nameAt Ms a)→nameAt Ms b∈c.take j:=by
  intro a b j hab hj;obtain ⟨x,y,hx,hy,hxy⟩:=hab;obtain ⟨m,hm,hmx,_,hall⟩:=h.at j _ hj;rw [ZbT hx] at hmx;have e:m=x:=nodup_names hd (hp.mem_iff.1 hm) (List.mem_of_getElem? hx) hmx;subst e;rw [ZbT hy];exact hall y (hp.mem_iff.2 (List.mem_of_getElem? hy)) hxy
 refine hv.walk (M:=fun k=>∀ j,c[j]?=some (nameAt Ms f)→nameAt Ms k∈c.take j) (fun _ e j hj=>step _ _ j e hj) (fun _ _ _ ih e=>?_)
 ·intro j hj
  have h1:=ih j hj;obtain ⟨i,hi,he⟩:=List.mem_take_iff_getElem.1 h1;have hi2:i<c.length:=by omega
  have h2:=step _ _ i e (by rw [List.getElem?_eq_getElem hi2,he]);exact List.mem_of_mem_take (i:=i) (by
   rw [List.take_take,show min i j=i by omega];exact h2)
theorem Zcx.noRound {c:List ByteArray} (h:Zcx Rs c) (hd:(Ms.map (·.name)).Nodup) (hl:c.length=Ms.length) (i:Nat):¬ Via (Next ZbC Ms) i i:=by
 intro hv;have hil:=hv.lt_of.1;have hall:∀ x∈Ms.map (·.name),x∈c:=full_mem h.nodup (fun x hx=>by
  obtain ⟨m,hm,rfl⟩:=h.names x hx;exact List.mem_map_of_mem (hp.mem_iff.1 hm)) (by simp;omega)
 obtain ⟨m,hm,hmi,hmn⟩:=mem_nameAt hil;obtain ⟨j,hj⟩:=List.getElem?_of_mem (hall m.name (List.mem_map_of_mem hm));rw [← hmn] at hj;have h1:=h.via hp hd hv j hj;obtain ⟨_,_,_,h2,_⟩:=h.at j _ hj;exact h2 h1
theorem order_round (hd:(Ms.map (·.name)).Nodup) (h:ZaV Rs Rs.length []=none):∃ i,Via (Next ZbC Ms) i i:=by
 obtain ⟨met,hs,hlen,hno⟩:=order_none .nil h;simp at hlen;have hne:(List.range Ms.length).filter (fun i=>@decide (nameAt Ms i ∉ met) (Classical.propDecidable _))≠[]:=by
  intro he;have hsub:∀ x∈Ms.map (·.name),x∈met:=by
   intro x hx;obtain ⟨m,hm,rfl⟩:=List.mem_map.1 hx;obtain ⟨i,hi,_,hn⟩:=nameAt_mem hm;refine Classical.byContradiction fun hn2=>?_
   have:i∈(List.range Ms.length).filter (fun i=>@decide (nameAt Ms i ∉ met) (Classical.propDecidable _)):=by
    rw [List.mem_filter,@decide_eq_true_iff _ (Classical.propDecidable _),hn];exact ⟨List.mem_range.2 hi,hn2⟩
   rw [he] at this;simp at this
  have:=List.Nodup.length_le_of_subset hd hsub
  rw [List.length_map,← hp.length_eq] at this
  omega
 obtain ⟨i,_,hi⟩:=comes_back (E:=Next ZbC Ms) _ _ (Nat.le_refl _) hne (fun i hi=>by
  rw [List.mem_filter,@decide_eq_true_iff _ (Classical.propDecidable _)] at hi;obtain ⟨m,hm,hmi,hmn⟩:=mem_nameAt (List.mem_range.1 hi.1);have hw:m.name ∉ met:=by rw [← hmn];exact hi.2
  have hnm:=hno m (hp.mem_iff.2 hm)
  have:∃ o∈Rs,Zcw m o.name=true∧o.name ∉ met:=by
   refine Classical.byContradiction fun hn=>?_
   have:mayB Rs met m=true:=may_iff.2 ⟨hw,fun o ho ha=>Classical.byContradiction fun h=>hn ⟨o,ho,ha,h⟩⟩
   rw [hnm] at this
   cases this
  obtain ⟨o,ho,ha,hw2⟩:=this;obtain ⟨k,hk,hko,hkn⟩:=nameAt_mem (hp.mem_iff.1 ho);refine ⟨k,?_,m,o,hmi,hko,ha⟩;rw [List.mem_filter,@decide_eq_true_iff _ (Classical.propDecidable _),hkn];exact ⟨List.mem_range.2 hk,hw2⟩)
 exact ⟨i,hi⟩
end
end Go.Proofs.YtlpnfbpgnfappaaGreat
namespace Go.Proofs.YtlpnfbpgnfappaaGreat
open Go.RowKit Go.PlainAid Go.Maps
def Zbn (x:ByteArray) (_:Nat):Value:=.string x
def strC (x:ByteArray):List Value:=[.string x]
theorem strC_at (x:ByteArray) (i:Nat) (hi:i<1):(strC x)[i]?=some (Zbn x i):=by
 obtain rfl:i=0:=by omega
 rfl
theorem flat_str:∀ l:List (List UInt8),l.map encStr=(l.map fun x=>(⟨x.toArray⟩:ByteArray)).flatMap strC
 | []=>rfl
 | x::l=>by rw [List.map_cons,List.map_cons,List.flatMap_cons,← flat_str l];rfl
theorem merge_rising {ss:List (List UInt8)} (hn:ss.Nodup):Rising ((ss.mergeSort leB).map fun x=>(⟨x.toArray⟩:ByteArray)):=by
 have tr:∀ a b c:List UInt8,leB a b=true→leB b c=true→leB a c=true:=fun a b c h1 h2=>by simp only [leB,decide_eq_true_eq] at *;exact List.le_trans h1 h2
 have to:∀ a b:List UInt8,(leB a b || leB b a)=true:=fun a b=>by simp only [leB,Bool.or_eq_true,decide_eq_true_eq];exact List.le_total a b
 have h1:=List.pairwise_mergeSort tr to ss;have h2:(ss.mergeSort leB).Nodup:=(List.mergeSort_perm ss leB).nodup_iff.2 hn;refine List.pairwise_map.2 ((h1.and h2).imp fun {a b} ⟨h3,h4⟩=>?_)
 show a<b
 simp only [leB,decide_eq_true_eq] at h3;exact Classical.byContradiction fun h5=>h4 (List.le_antisymm h3 (List.not_lt.1 h5))
theorem sorted_names {W W0:World} {base b nn:Nat} {v:Value} {ss:List (List UInt8)} {D:DataW Unit} {R:Value→Option (DataW Unit × List MemPlace)} {names:List ByteArray} (hown:W0.ownsMap Tryz.prog 9 R b nn D) (hD:Zbt D names) (hn:names.Nodup) (hl:names.length≤255)
  (hp:ss.Perm (strKeys D)) (hr:W.ownsRow base 9 1 v ss.length ((ss.mergeSort (fun x y=>decide (x≤y))).map encStr)):∃ rs:List ByteArray,Zal 1 Zbn W.heap.size W v rs∧Rising rs∧∀ x,x∈rs↔x∈names:=by
 have hC:Collected D (fun _=>false) (names.map fun x=>x.data.toList):=by
  refine ⟨?_,fun x=>?_⟩
  ·exact List.pairwise_map.2 (hn.imp fun h e=>h (bytes_ext e))
  ·have h1:=hD ⟨x.toArray⟩
   have h2:(⟨x.toArray⟩:ByteArray).data.toList=x:=by simp
   rw [h2] at h1;rw [h1,any_mem]
   constructor
   ·intro h
    obtain ⟨y,hy,rfl⟩:=List.mem_map.1 h;exact ⟨by simpa using hy,rfl⟩
   ·rintro ⟨h,_⟩
    exact List.mem_map.2 ⟨_,h,h2⟩
 have hq:=hC.perm hown lawS Tryz.underlying9 (fun _=>rfl);have hsn:ss.Nodup:=(hp.trans hq.symm).nodup_iff.2 hC.1;have hmem:∀ x,x∈ss↔x∈names.map fun x=>x.data.toList:=fun x=>(hp.trans hq.symm).mem_iff;have hlen:ss.length=names.length:=by rw [(hp.trans hq.symm).length_eq,List.length_map]
 refine ⟨(ss.mergeSort leB).map fun x=>(⟨x.toArray⟩:ByteArray),?_,merge_rising hsn,fun x=>?_⟩
 ·have e1:ss.length=((ss.mergeSort leB).map fun x=>(⟨x.toArray⟩:ByteArray)).length:=by rw [List.length_map,List.length_mergeSort]
  rw [flat_str] at hr;have hr2:W.ownsRow base 9 1 v ((ss.mergeSort leB).map fun x=>(⟨x.toArray⟩:ByteArray)).length (((ss.mergeSort leB).map fun x=>(⟨x.toArray⟩:ByteArray)).flatMap strC):=by rw [← e1];exact hr
  exact ZbX (C:=strC) (cells:=Zbn) (sz:=1) (fun _=>rfl) strC_at hr2 (by rw [← e1,hlen];omega)
 ·constructor
  ·intro h
   obtain ⟨y,hy,rfl⟩:=List.mem_map.1 h
   have:=(hmem y).1 ((List.mergeSort_perm ss leB).mem_iff.1 hy)
   obtain ⟨z,hz,rfl⟩:=List.mem_map.1 this
   simpa using hz
  ·intro h
   refine List.mem_map.2 ⟨x.data.toList,?_,by simp⟩;exact (List.mergeSort_perm ss leB).mem_iff.2 ((hmem _).2 (List.mem_map_of_mem h))
end Go.Proofs.YtlpnfbpgnfappaaGreat
namespace Go.Proofs.YtlpnfbpgnfappaaGreat
open Go.RowKit Go.PlainAid Go.Maps Go.WideMaps
def Zbz (L:List Plc) (name:ByteArray):Int:=if Zav L≠0 then Zav L else if (L.any fun p=>p.mod.name == name)=true then 0 else 5
def Comes (nx:Mod→Mod→Bool) (Ms:List Mod) (f:Nat) (ss:List ByteArray):Prop:=Rising ss∧∀ x,x∈ss↔∃ k,Via (Next nx Ms) f k∧nameAt Ms k=x
def ZbW (nx:Mod→Mod→Bool) (L:List Plc) (name:ByteArray) (ss:List ByteArray):Prop:=
 (Zbz L name≠0∧ss=[])∨(Zbz L name=0∧∃ f,f<L.length∧nameAt (L.map (·.mod)) f=name∧Comes nx (L.map (·.mod)) f ss)
theorem come_cases (nx:Mod→Mod→Bool) (l:List PV) (name:ByteArray) :
  (Zav (l.map PV.plc)≠0∧Zbz (l.map PV.plc) name=Zav (l.map PV.plc)∧ZbW nx (l.map PV.plc) name [])∨
  (Zav (l.map PV.plc)=0∧Zag (fun x:PV=>x.mod.name == name) 0 l = -1∧Zbz (l.map PV.plc) name=5∧ZbW nx (l.map PV.plc) name [])∨
  (Zav (l.map PV.plc)=0∧∃ f:Nat,f<l.length∧Zag (fun x:PV=>x.mod.name == name) 0 l=(f:Int)∧Zbz (l.map PV.plc) name=0∧∀ ss,Comes nx (l.map (·.mod)) f ss→ZbW nx (l.map PV.plc) name ss):=by
 have hany:((l.map PV.plc).any fun p=>p.mod.name == name)=l.any fun x:PV=>x.mod.name == name:=by rw [List.any_map];rfl
 have hmm:(l.map PV.plc).map (·.mod)=l.map (·.mod):=by rw [List.map_map];rfl
 by_cases h0:Zav (l.map PV.plc)=0
 ·rcases ix_find (fun x:PV=>x.mod.name == name) l 0 with ⟨h1,h2⟩ | ⟨j,x,h1,h2,h3⟩
  ·have h4:(l.any fun x:PV=>x.mod.name == name)=false:=by
    rw [← Bool.not_eq_true,List.any_eq_true];rintro ⟨y,hy,he⟩;exact List.find?_eq_none.1 h1 y hy he
   have h5:Zbz (l.map PV.plc) name=5:=by
    unfold Zbz;rw [if_neg (by omega),hany,h4];rfl
   exact .inr (.inl ⟨h0,h2,h5,.inl ⟨by omega,rfl⟩⟩)
  ·have h6:(x.mod.name == name)=true:=by simpa using List.find?_some h1
   have h4:(l.any fun x:PV=>x.mod.name == name)=true:=List.any_eq_true.2 ⟨x,List.mem_of_getElem? h2,h6⟩;have h5:Zbz (l.map PV.plc) name=0:=by
    unfold Zbz;rw [if_neg (by omega),hany,h4];rfl
   have hj:j<l.length:=(List.getElem?_eq_some_iff.1 h2).1;refine .inr (.inr ⟨h0,j,hj,by rw [h3,Nat.zero_add],h5,fun ss hs=>.inr ⟨h5,j,by simpa using hj,?_,by rw [hmm];exact hs⟩⟩);rw [hmm,ZbT (x:=x.mod) (by rw [List.getElem?_map,h2];rfl)];exact (Go.MapKept.bytes_beq _ _).1 h6
 ·have h5:Zbz (l.map PV.plc) name=Zav (l.map PV.plc):=by
   unfold Zbz;rw [if_pos h0]
  exact .inl ⟨h0,h5,.inl ⟨by rw [h5];exact h0,rfl⟩⟩
theorem come1_any (B:Nat) (name:ByteArray) (x:PV) (w:World) (hlt:B<w.heap.size) (hB:w.cell? ⟨B,0,none⟩=some (.string name)) (hat:ZbH w.heap.size w x) :
  Calls Tryz.prog 153 #[x.val,.pointer (some ⟨B,0,none⟩)] w fun e w'=>e=.returned (.bool (x.mod.name == name))∧Below w.heap.size w w':=by
 rw [← Zbg];obtain ⟨⟨pe,ke,e4,_⟩,⟨pi,ki,e5,_⟩,⟨pp,kp,e6,_⟩⟩:=hat;obtain ⟨⟨N,ma,mi,T,es,is,ps⟩,ve,vi,vp,fi⟩:=x;dsimp only at e4 e5 e6;subst e4 e5 e6;dsimp only [PV.val];generalize es.length=le at *;generalize is.length=li at *;generalize ps.length=lp at *
 go_enter Tryz.func153,Tryz.ntmps153
 go_wp2;go_ret;exact ⟨rfl,(Below.refl _ _).alloc (Nat.le_refl _) _⟩
structure Told (nx:Mod→Mod→Bool) (l:List PV) (E:Nat→Nat→Prop) (nA:Nat→ByteArray):Prop where
 edge:∀ (i k:Nat) (x y:PV),l[i]?=some x→l[k]?=some y→(E i k↔nx x.mod y.mod=true)
 lt:∀ i k,E i k→k<l.length
 name:∀ (k:Nat) (x:PV),l[k]?=some x→nA k=x.mod.name
 met:∀ (met:List Nat),(∀ k∈met,k<l.length)→∀ i,i<l.length→(((met.map nA).any fun y=>y == nA i)=true↔i∈met)
 nodup:∀ met:List Nat,(∀ k∈met,k<l.length)→met.Nodup→(met.map nA).Nodup
theorem told_of (nx:Mod→Mod→Bool) (l:List PV) (hd:(l.map (·.mod.name)).Nodup):Told nx l (Next nx (l.map (·.mod))) (nameAt (l.map (·.mod))):=by
 have hd2:((l.map (·.mod)).map (·.name)).Nodup:=by rw [List.map_map];exact hd
 have at_:∀ (k:Nat) (x:PV),l[k]?=some x→(l.map (·.mod))[k]?=some x.mod:=fun k x h=>by rw [List.getElem?_map,h];rfl
 refine ⟨fun i k x y hx hy=>Next.iff (at_ i x hx) (at_ k y hy),fun i k h=>by simpa using h.lt.2,fun k x hx=>ZbT (at_ k x hx),fun met hm i hi=>any_name hd2 (by simpa using hm) (by simpa using hi),fun met hm hn=>?_⟩;exact List.pairwise_map.2 (hn.imp_of_mem fun {a b} ha hb hne e=>hne (nameAt_inj hd2 (by simpa using hm a ha) (by simpa using hm b hb) e))
theorem map_below {W W':World} {t:TypeId} {R:Value→Option (DataW Unit × List MemPlace)} {b n m:Nat} {D:DataW Unit} (h:W.ownsMap Tryz.prog t R b n D) (hb:Below m W W') (hlt:b<m):W'.ownsMap Tryz.prog t R b n D:=by
 obtain ⟨es,clock,h1,Ft,hs,hD⟩:=h;exact ⟨es,clock,(hb.block b hlt).trans h1,Ft,hs,hD⟩
theorem cell_grown {W W':World} {row:Option Nat} (hg:W.grownBy W' row) {b o:Nat} (hlt:b<W.heap.size) (hne:some b≠row):W'.cell? ⟨b,o,none⟩=W.cell? ⟨b,o,none⟩:=by
 unfold World.cell?;rw [hg.block b hlt hne]
structure OrdAt (W:World) (n₀ n:Nat) (D:DataW Unit) (r:Value) (rs:List PV) (met:List ByteArray):Prop where
 lt:n₀+1+1+1<W.heap.size
 c0:W.cell? ⟨n₀,0,none⟩=some r
 own:W.ownsMap Tryz.prog 9 (plainElem Tryz.prog 3) (n₀+1) n D
 cm:W.cell? ⟨n₀+1+1,0,none⟩=some (.map (some (n₀+1)))
 cw:W.cell? ⟨n₀+1+1+1,0,none⟩=some (.func (.func 142) #[] #[.pointer (some ⟨n₀+1+1,0,none⟩)])
 has:Zbt D met
 row:Zal 7 PV.cell n₀ W r rs
 at_:∀ x∈rs,ZbH n₀ W x
 fit:∀ x∈rs,x.mod.fits
theorem OrdAt.keep {W W':World} {n₀ n m:Nat} {D:DataW Unit} {r:Value} {rs:List PV} {met:List ByteArray} (h:OrdAt W n₀ n D r rs met) (hb:Below m W W') (hm:n₀+1+1+1<m):OrdAt W' n₀ n D r rs met:=
 ⟨Nat.lt_of_lt_of_le h.lt hb.size,(hb.cell (p:=⟨n₀,0,none⟩) (show n₀<m by omega)).trans h.c0,map_below h.own hb (by omega),(hb.cell (p:=⟨n₀+1+1,0,none⟩) (show n₀+1+1<m by omega)).trans h.cm,(hb.cell (p:=⟨n₀+1+1+1,0,none⟩) hm).trans h.cw,h.has,
 h.row.below (hb.mono (by omega)),fun x hx=>(h.at_ x hx).below (hb.mono (by omega)),h.fit⟩
theorem OrdAt.below {W W':World} {n₀ n:Nat} {D:DataW Unit} {r:Value} {rs:List PV} {met:List ByteArray} (h:OrdAt W n₀ n D r rs met) (hb:Below W.heap.size W W'):OrdAt W' n₀ n D r rs met:=h.keep hb h.lt
theorem OrdAt.put {W W':World} {n₀ n n':Nat} {D D':DataW Unit} {r:Value} {rs:List PV} {met met':List ByteArray} (h:OrdAt W n₀ n D r rs met) (hg:W.grownBy W' (some (n₀+1))) (ho:W'.ownsMap Tryz.prog 9 (plainElem Tryz.prog 3) (n₀+1) n' D') (hh:Zbt D' met'):OrdAt W' n₀ n' D' r rs met':=by
 have hl:=h.lt;have hb:Below n₀ W W':=(Below.refl _ _).grown hg (by omega) (fun k hk=>by injection hk with hk;omega);refine ⟨Nat.lt_of_lt_of_le h.lt hg.size,(cell_grown hg (by omega) (fun e=>?_)).trans h.c0,ho,(cell_grown hg (by omega) (fun e=>?_)).trans h.cm,(cell_grown hg (by omega) (fun e=>?_)).trans h.cw,hh,h.row.below hb,fun x hx=>(h.at_ x hx).below hb,h.fit⟩
 all_goals
  injection e with e
  omega
theorem OrdAt.rowW {W:World} {n₀ n:Nat} {D:DataW Unit} {r:Value} {rs:List PV} {met:List ByteArray} (h:OrdAt W n₀ n D r rs met):Zal 7 PV.cell W.heap.size W r rs:=h.row.more (by have:=h.lt;omega)
theorem OrdAt.atW {W:World} {n₀ n:Nat} {D:DataW Unit} {r:Value} {rs:List PV} {met:List ByteArray} (h:OrdAt W n₀ n D r rs met):∀ x∈rs,ZbH W.heap.size W x:=fun x hx=>(h.at_ x hx).more (by have:=h.lt;omega)
theorem ordered1_any (x:PV) (W:World) {n₀ n:Nat} {D:DataW Unit} {r:Value} {rs:List PV} {met:List ByteArray} (h:OrdAt W n₀ n D r rs met) (hx:x∈rs) :
  Calls Tryz.prog 142 #[x.modV,.pointer (some ⟨n₀+1+1,0,none⟩)] W fun e w'=>e=.returned (.bool (waitsB met x.mod))∧Below W.heap.size W w':=by
 have hn:x.mod.name.size≤9223372036854775807:=(h.fit x hx).1;have hkey:keyOf Tryz.prog 9 (.string x.mod.name)=some (.string x.mod.name.data.toList):=keyOf_string_mk Tryz.underlying9 hn;have hhas:=h.has x.mod.name;have cm:=h.cm;have lm:n₀+1+1<W.heap.size:=by have:=h.lt;omega
 have hown:=h.own;obtain ⟨⟨pe,ke,e4,_⟩,⟨pi,ki,e5,_⟩,⟨pp,kp,e6,_⟩⟩:=h.atW x hx;clear h hx;unfold waitsB;obtain ⟨⟨N,ma,mi,T,es,is,ps⟩,ve,vi,vp,fi⟩:=x;dsimp only at e4 e5 e6 hn hkey hhas;subst e4 e5 e6;dsimp only [PV.modV];generalize es.length=le at *;generalize is.length=li at *;generalize ps.length=lp at *;generalize met.any (fun y=>y == N)=t at *
 cases t
 all_goals
  go_enter Tryz.func142,Tryz.ntmps142
  go_wp2_with (first
   | (at_lookup;refine wpList_lookup_own_ok_int _ rfl _ _ 171 rfl 9 3 .i64 lawS Tryz.underlying171 Tryz.underlying3 (zeroI _) (n₀+1) n D rfl (hown.kept (World.grownBy_alloc _ _ none) (by simp)) _ _ rfl hkey ?_;intro c hat' hwc;clear hat' hwc))
  go_ret;exact ⟨rfl,(Below.refl _ _).alloc (Nat.le_refl _) _⟩
theorem ordered21_any (m x:PV) (W:World) {n₀ n:Nat} {D:DataW Unit} {r:Value} {rs:List PV} {met:List ByteArray} (h:OrdAt W n₀ n D r rs met) (hm:m∈rs) (hx:x∈rs)
  (B3:Nat) (l3:B3<W.heap.size) (h3:Za W B3 31 #[.string m.mod.name,.int .i64 m.mod.major,.int .i64 m.mod.minor,.string m.mod.text,m.ve,m.vi,m.vp]) :
  Calls Tryz.prog 145 #[x.modV,.pointer (some ⟨n₀+1+1+1,0,none⟩),.pointer (some ⟨B3,0,none⟩)] W fun e w'=>e=.returned (.bool (waitsB met x.mod && Zcw m.mod x.mod.name))∧Below W.heap.size W w':=by
 have HW:Hid (∀ W',Below W.heap.size W W'→Calls Tryz.prog 142 #[x.modV,.pointer (some ⟨n₀+1+1,0,none⟩)] W' fun e w'=>e=.returned (.bool (waitsB met x.mod))∧Below W'.heap.size W' w'):=fun W' hb=>ordered1_any x W' (h.below hb) hx;have HA:Hid (∀ W',Below W.heap.size W W'→Calls Tryz.prog 99 #[m.modV,.string x.mod.name] W' fun e w'=>e=.returned (.bool (Zcw m.mod x.mod.name))∧Below W'.heap.size W' w'):=fun W' hb=>asks_any m.mod m.modV x.mod.name W' ((((h.atW m hm).below hb).more hb.size).isMod);obtain ⟨⟨pe,ke,e4,_⟩,⟨pi,ki,e5,_⟩,⟨pp,kp,e6,_⟩⟩:=h.atW x hx;obtain ⟨⟨ye,je,f4,_⟩,⟨yi,ji,f5,_⟩,⟨yp,jp,f6,_⟩⟩:=h.atW m hm;have cw:=h.cw;have lw:=h.lt;clear h hx hm;generalize waitsB met x.mod=t at *;generalize Zcw m.mod x.mod.name=u at *;obtain ⟨⟨N,ma,mi,T,es,is,ps⟩,ve,vi,vp,fi⟩:=x;obtain ⟨⟨N',ma',mi',T',es',is',ps'⟩,ve',vi',vp',fi'⟩:=m;dsimp only at e4 e5 e6 f4 f5 f6 HA h3;subst e4 e5 e6 f4 f5 f6;dsimp only [PV.modV] at *;generalize es.length=le at *;generalize is.length=li at *;generalize ps.length=lp at *;generalize es'.length=le' at *;generalize is'.length=li' at *;generalize ps'.length=lp' at *;have B1:Hid (Below W.heap.size W (W.alloc (.cells #[.string N,.int .i64 ma,.int .i64 mi,.string T,.slice pe le ke,.slice pi li ki,.slice pp lp kp] 31))):=(Below.refl _ _).alloc (Nat.le_refl _) _;have C1:Hid (Za (W.alloc (.cells #[.string N,.int .i64 ma,.int .i64 mi,.string T,.slice pe le ke,.slice pi li ki,.slice pp lp kp] 31)) W.heap.size 31 #[.string N,.int .i64 ma,.int .i64 mi,.string T,.slice pe le ke,.slice pi li ki,.slice pp lp kp]):=Za.new _ _ _
 go_enter Tryz.func145,Tryz.ntmps145
 go_wp2_with fail;refine (HW.out _ B1.out).mono ?_;rintro e w2 ⟨rfl,b2⟩;have B2:=B1.out.trans (b2.mono B1.out.size);have C2:=C1.out.below b2 (by simp);have D2:=h3.below B2 l3;have l2:W.heap.size<w2.heap.size:=C2.lt;have n0:=C2.cell 0;have m0:=D2.cell 0;have m1:=D2.cell 1;have m2:=D2.cell 2;have m3:=D2.cell 3;have m4:=D2.cell 4;have m5:=D2.cell 5;have m6:=D2.cell 6;simp at n0 m0 m1 m2 m3 m4 m5 m6;clear HW B1 C1 b2 C2 D2 h3 cw
 cases t
 ·clear HA
  go_wp2;go_ret;exact ⟨rfl,B2⟩
 ·go_wp2_with fail
  refine (HA.out _ B2).mono ?_;rintro e w3 ⟨rfl,b3⟩;have B3:=B2.trans (b3.mono B2.size);clear HA b3 n0 m0 m1 m2 m3 m4 m5 m6;go_wp2;go_ret;exact ⟨rfl,B3⟩
theorem ordered2_any (m:PV) (W:World) {n₀ n:Nat} {D:DataW Unit} {r:Value} {rs:List PV} {met:List ByteArray} (h:OrdAt W n₀ n D r rs met) (hm:m∈rs) :
  Calls Tryz.prog 143 #[m.modV,.pointer (some ⟨n₀+1+1+1,0,none⟩),.pointer (some ⟨n₀,0,none⟩)] W fun e w'=>e=.returned (.bool (mayB (rs.map (·.mod)) met m.mod))∧Below W.heap.size W w':=by
 have HW:Hid (∀ W',Below W.heap.size W W'→Calls Tryz.prog 142 #[m.modV,.pointer (some ⟨n₀+1+1,0,none⟩)] W' fun e w'=>e=.returned (.bool (waitsB met m.mod))∧Below W'.heap.size W' w'):=fun W' hb=>ordered1_any m W' (h.below hb) hm;have HA:Hid (∀ W' B3,Below W.heap.size W W'→Za W' B3 31 #[.string m.mod.name,.int .i64 m.mod.major,.int .i64 m.mod.minor,.string m.mod.text,m.ve,m.vi,m.vp]→Calls Tryz.prog 144 #[r,.func (.func 145) #[] #[.pointer (some ⟨n₀+1+1+1,0,none⟩),.pointer (some ⟨B3,0,none⟩)]] W' fun e w'=>e=.returned (.bool (rs.any fun x:PV=>waitsB met x.mod && Zcw m.mod x.mod.name))∧Below W'.heap.size W' w'):=fun W' B3 hb h3=>
  anyMod_any rs r 145 (.pointer (some ⟨n₀+1+1+1,0,none⟩)) (.pointer (some ⟨B3,0,none⟩)) (fun w x=>enters_of Tryz.func145 (by kernel_rfl) rfl _ w) _ W' ((h.below hb).rowW) (fun x hx W2 hb2=>ordered21_any m x W2 ((h.below hb).below hb2) hm hx B3 (Nat.lt_of_lt_of_le h3.lt hb2.size) (h3.below hb2 h3.lt))
 have hmay:mayB (rs.map (·.mod)) met m.mod=(waitsB met m.mod && !(rs.any fun x:PV=>waitsB met x.mod && Zcw m.mod x.mod.name)):=by
  unfold mayB;rw [List.any_map]
  rfl
 rw [hmay];obtain ⟨⟨pe,ke,e4,_⟩,⟨pi,ki,e5,_⟩,⟨pp,kp,e6,_⟩⟩:=h.atW m hm;have cw:=h.cw;have lw:=h.lt;have c0:=h.c0;have l0:n₀<W.heap.size:=by have:=h.lt;omega
 obtain ⟨ra,rc,rfl,_,_⟩:=h.rowW;clear h hm hmay;generalize (rs.any fun x:PV=>waitsB met x.mod && Zcw m.mod x.mod.name)=u at *;generalize waitsB met m.mod=t at *;obtain ⟨⟨N,ma,mi,T,es,is,ps⟩,ve,vi,vp,fi⟩:=m;dsimp only at e4 e5 e6 HA;subst e4 e5 e6;dsimp only [PV.modV] at *;generalize es.length=le at *;generalize is.length=li at *;generalize ps.length=lp at *;generalize rs.length=lr at *;have B1:Hid (Below W.heap.size W (W.alloc (.cells #[.string N,.int .i64 ma,.int .i64 mi,.string T,.slice pe le ke,.slice pi li ki,.slice pp lp kp] 31))):=(Below.refl _ _).alloc (Nat.le_refl _) _;have C1:Hid (Za (W.alloc (.cells #[.string N,.int .i64 ma,.int .i64 mi,.string T,.slice pe le ke,.slice pi li ki,.slice pp lp kp] 31)) W.heap.size 31 #[.string N,.int .i64 ma,.int .i64 mi,.string T,.slice pe le ke,.slice pi li ki,.slice pp lp kp]):=Za.new _ _ _
 go_enter Tryz.func143,Tryz.ntmps143
 go_wp2_with fail;refine (HW.out _ B1.out).mono ?_;rintro e w2 ⟨rfl,b2⟩;have B2:=B1.out.trans (b2.mono B1.out.size);have C2:=C1.out.below b2 (by simp);have l2:W.heap.size<w2.heap.size:=C2.lt;have c02:=(B2.cell (p:=⟨n₀,0,none⟩) l0).trans c0;have HC2:Hid (Za w2 W.heap.size 31 #[.string N,.int .i64 ma,.int .i64 mi,.string T,.slice pe le ke,.slice pi li ki,.slice pp lp kp]):=C2;clear HW B1 C1 b2 C2 cw c0
 cases t
 ·clear HA HC2
  go_wp2;go_ret;exact ⟨rfl,B2⟩
 ·go_wp2_with fail
  refine (HA.out _ _ B2 HC2.out).mono ?_;rintro e w3 ⟨rfl,b3⟩;have B3:=B2.trans (b3.mono B2.size);clear HA b3;go_wp2;go_ret;exact ⟨rfl,B3⟩
def ZbK (Rs:List Mod):List ByteArray × Int:=match ZaV Rs Rs.length [] with | none=>([],4) | some c=>(c,0)
theorem ordRes_none {Rs:List Mod} (h:ZaV Rs Rs.length []=none):ZbK Rs=([],4):=by unfold ZbK;rw [h]
theorem ordRes_some {Rs:List Mod} {c:List ByteArray} (h:ZaV Rs Rs.length []=some c):ZbK Rs=(c,0):=by unfold ZbK;rw [h]
def CapOk (v:Value):Prop:=∀ a n c,v=.slice a n c→n≤c∧c≤9223372036854775807
theorem capNil:CapOk (.slice none 0 0):=fun a n c h=>by
 injection h with _ h2 h3
 omega
theorem own_cap {W:World} {base:Nat} {e:TypeId} {size:Nat} {v:Value} {n:Nat} {xs:List Value} (h:W.ownsRow base e size v n xs):CapOk v:=by
 rcases h.2 with ⟨rfl,_⟩ | ⟨g,cap,cur,rfl,_,_,hcap,hm,_⟩
 ·exact capNil
 ·intro a m c he
  injection he with _ h2 h3;unfold maxLen at hm
  omega
theorem infoStr:(Tryz.prog.info? 9).map (fun i=>(i.zero,i.size,i.bytes))=some (some (.string ⟨#[]⟩),1,16):=by kernel_rfl
theorem infoStr_parts:∃ i,Tryz.prog.info? 9=some i∧i.zero=some (.string ⟨#[]⟩)∧i.size=1∧i.bytes=16:=by
 have h:=infoStr
 cases hi:Tryz.prog.info? 9 with
 | none=>rw [hi] at h;cases h
 | some i=>
  rw [hi] at h;simp at h;exact ⟨i,rfl,h.1,h.2.1,h.2.2⟩
theorem OrdAt.start (rs:List PV) (r:Value) (w:World) (hrow:Zal 7 PV.cell w.heap.size w r rs) (hat:∀ x∈rs,ZbH w.heap.size w x) (hfit:∀ x∈rs,x.mod.fits) :
  OrdAt ((((w.alloc (.cells #[r] 126)).alloc (.map #[] 0)).alloc (.cells #[.map (some (w.heap.size+1))] 171)).alloc (.cells #[.func (.func 142) #[] #[.pointer (some ⟨w.heap.size+1+1,0,none⟩)]] 149)) w.heap.size 0 (.map []) r rs []∧
  Below w.heap.size w ((((w.alloc (.cells #[r] 126)).alloc (.map #[] 0)).alloc (.cells #[.map (some (w.heap.size+1))] 171)).alloc (.cells #[.func (.func 142) #[] #[.pointer (some ⟨w.heap.size+1+1,0,none⟩)]] 149)):=by
 have hB:Below w.heap.size w ((((w.alloc (.cells #[r] 126)).alloc (.map #[] 0)).alloc (.cells #[.map (some (w.heap.size+1))] 171)).alloc (.cells #[.func (.func 142) #[] #[.pointer (some ⟨w.heap.size+1+1,0,none⟩)]] 149)):=((((Below.refl _ _).alloc (Nat.le_refl _) _).alloc (by simp) _).alloc (by simp;omega) _).alloc (by simp;omega) _;have k0:=((((Za.new w 126 #[r]).kept (World.grownBy_alloc _ (.map #[] 0) none) (by simp)).kept (World.grownBy_alloc _ (.cells #[.map (some (w.heap.size+1))] 171) none) (by simp)).kept (World.grownBy_alloc _ (.cells #[.func (.func 142) #[] #[.pointer (some ⟨w.heap.size+1+1,0,none⟩)]] 149) none) (by simp)).cell 0;have k1:=(((World.ownsMap_made (w.alloc (.cells #[r] 126)) Tryz.prog 9 (plainElem (H:=Unit) Tryz.prog 3)).kept (World.grownBy_alloc _ (.cells #[.map (some (w.heap.size+1))] 171) none) (by simp)).kept (World.grownBy_alloc _ (.cells #[.func (.func 142) #[] #[.pointer (some ⟨w.heap.size+1+1,0,none⟩)]] 149) none) (by simp));have k2:=((Za.new ((w.alloc (.cells #[r] 126)).alloc (.map #[] 0)) 171 #[.map (some (w.heap.size+1))]).kept (World.grownBy_alloc _ (.cells #[.func (.func 142) #[] #[.pointer (some ⟨w.heap.size+1+1,0,none⟩)]] 149) none) (by simp)).cell 0;have k3:=(Za.new (((w.alloc (.cells #[r] 126)).alloc (.map #[] 0)).alloc (.cells #[.map (some (w.heap.size+1))] 171)) 149 #[.func (.func 142) #[] #[.pointer (some ⟨w.heap.size+1+1,0,none⟩)]]).cell 0;simp only [World.size_alloc] at k0 k1 k2 k3;exact ⟨⟨by simp,k0,k1,k2,k3,Zbt.none,hrow.below hB,fun x hx=>(hat x hx).below hB,hfit⟩,hB⟩
theorem ordered_own (rs:List PV) (r:Value) (w:World) (hrow:Zal 7 PV.cell w.heap.size w r rs) (hat:∀ x∈rs,ZbH w.heap.size w x) (hfit:∀ x∈rs,x.mod.fits) (h8:rs.length≤8) :
  Calls Tryz.prog 89 #[r] w fun e w'=>(∃ v,e=.returned (.tuple #[v,.int .i64 (ZbK (rs.map (·.mod))).2])∧Zal 1 Zbn w'.heap.size w' v (ZbK (rs.map (·.mod))).1∧CapOk v∧w'.ownsRow w.heap.size 9 1 v (ZbK (rs.map (·.mod))).1.length ((ZbK (rs.map (·.mod))).1.flatMap strC))∧Below w.heap.size w w':=by
 have HS:=OrdAt.start rs r w hrow hat hfit;have HSH:Hid (OrdAt ((((w.alloc (.cells #[r] 126)).alloc (.map #[] 0)).alloc (.cells #[.map (some (w.heap.size+1))] 171)).alloc (.cells #[.func (.func 142) #[] #[.pointer (some ⟨w.heap.size+1+1,0,none⟩)]] 149)) w.heap.size 0 (.map []) r rs []):=HS.1;have HSB:Hid (Below w.heap.size w ((((w.alloc (.cells #[r] 126)).alloc (.map #[] 0)).alloc (.cells #[.map (some (w.heap.size+1))] 171)).alloc (.cells #[.func (.func 142) #[] #[.pointer (some ⟨w.heap.size+1+1,0,none⟩)]] 149))):=HS.2;have HN:Hid (ZaV (rs.map (·.mod)) rs.length []=none→ZbK (rs.map (·.mod))=([],4)):=fun h=>ordRes_none (by rw [List.length_map];exact h);have HY:Hid (∀ c,ZaV (rs.map (·.mod)) rs.length []=some c→ZbK (rs.map (·.mod))=(c,0)):=fun c h=>ordRes_some (by rw [List.length_map];exact h);have HST:Hid (∀ n met,ZaV (rs.map (·.mod)) (n+1) met=match (rs.map (·.mod)).find? (mayB (rs.map (·.mod)) met) with | none=>none | some m=>ZaV (rs.map (·.mod)) n (met++[m.name])):=fun n met=>rfl;have HS0:Hid (∀ met,ZaV (rs.map (·.mod)) 0 met=some met):=fun met=>rfl;clear HS hat hfit;generalize ZbK (rs.map (·.mod))=OR at *;obtain ⟨ra,rc,rfl,hm,hcells⟩:=hrow;have hmm:=@run_makeMap Tryz.prog;obtain ⟨ii,hii,hz0,hz1,hz2⟩:=infoStr_parts
 go_enter Tryz.func89,Tryz.ntmps89
 go_wp2_with fail
 go_loopw [7,14] (fun f i wr=>∃ (k:Nat) (met:List ByteArray) (D:DataW Unit),k≤rs.length∧i=.int .i64 k∧Hid (met.length=k∧ZaV (rs.map (·.mod)) rs.length []=ZaV (rs.map (·.mod)) (rs.length-k) met)∧OrdAt wr w.heap.size k D (.slice ra rs.length rc) rs met∧wr.ownsRow (w.heap.size+4) 9 1 f k (met.flatMap strC)∧Below w.heap.size w wr) (fun _ i _=>rs.length-(intOf i).toNat)
 case atStart=>exact ⟨0,[],.map [],Nat.zero_le _,rfl,⟨rfl,rfl⟩,HSH.out,⟨rfl,.inl ⟨rfl,rfl⟩⟩,HSB.out⟩
 case round=>
  obtain ⟨k,met,D,hk,rfl,HM,hO,hown,B⟩:=hrel;clear HSH HSB;have c0:=hO.c0;have l0:w.heap.size<wr.heap.size:=by have:=hO.lt;omega
  have HO:Hid (OrdAt wr w.heap.size k D (.slice ra rs.length rc) rs met):=hO;clear hO;obtain ⟨av,kv,rfl⟩:=Zae hown
  by_cases hlt:k<rs.length
  ·have HIX:Hid (Calls Tryz.prog 146 #[.slice ra rs.length rc,.func (.func 143) #[] #[.pointer (some ⟨w.heap.size+1+1+1,0,none⟩),.pointer (some ⟨w.heap.size,0,none⟩)]] wr fun e w'=>e=.returned (.int .i64 (Zag (fun x:PV=>mayB (rs.map (·.mod)) met x.mod) 0 rs))∧Below wr.heap.size wr w'):=
    ixMod_any rs _ 143 _ _ (fun w x=>enters_of Tryz.func143 (by kernel_rfl) rfl _ w) _ wr HO.out.rowW (fun x hx W' hb'=>ordered2_any x W' (HO.out.below hb') hx)
   have hix:=ix_find (fun x:PV=>mayB (rs.map (·.mod)) met x.mod) rs 0;generalize hixv:Zag (fun x:PV=>mayB (rs.map (·.mod)) met x.mod) 0 rs=ix at *;clear hcells;go_wp2_with fail;refine HIX.out.mono ?_;rintro e w2 ⟨rfl,b2⟩;have HO2:Hid (OrdAt w2 w.heap.size k D (.slice ra rs.length rc) rs met):=HO.out.below b2;have own2:=own_below hown b2;have B2:=B.trans (b2.mono B.size);clear HIX HO hown b2 c0 l0;clear hixv
   rcases hix with ⟨h1,rfl⟩ | ⟨j,x,h1,h2,h3⟩
   ·have HE:Hid (OR=([],4)):=HN.out (by
     rw [HM.out.2,show rs.length-k=(rs.length-k-1)+1 by omega,HST.out,List.find?_map,show ((mayB (rs.map (·.mod)) met) ∘ fun x:PV=>x.mod)=fun x:PV=>mayB (rs.map (·.mod)) met x.mod from rfl,h1]
     rfl)
    clear h1;go_wp2;go_ret2;exact ⟨⟨_,by rw [HE.out];rfl,by rw [HE.out];exact ⟨none,0,rfl,by simp,.inl rfl⟩,capNil,by rw [HE.out];exact World.ownsRow_nil _ _ _ _⟩,B2⟩
   ·have HE:Hid (ZaV (rs.map (·.mod)) rs.length []=ZaV (rs.map (·.mod)) (rs.length-(k+1)) (met++[x.mod.name])):=by
     show ZaV (rs.map (·.mod)) rs.length []=_
     rw [HM.out.2,show rs.length-k=(rs.length-(k+1))+1 by omega,HST.out,List.find?_map,show ((mayB (rs.map (·.mod)) met) ∘ fun x:PV=>x.mod)=fun x:PV=>mayB (rs.map (·.mod)) met x.mod from rfl,h1]
     rfl
    rw [Nat.zero_add] at h3;subst h3;have hj:j<rs.length:=(List.getElem?_eq_some_iff.1 h2).1;have hO2:=HO2.out;obtain ⟨ra',rc',ee,_,hcl⟩:=hO2.row;injection ee with e1 e2 e3;subst e1 e3
    rcases hcl with h | ⟨b,off,rfl,hbn,hcells⟩
    ·subst h;simp at hj
    have cn:=hcells j x h2 0 (by omega);dsimp only [PV.cell] at cn;have hn:x.mod.name.size≤9223372036854775807:=(hO2.fit x (List.mem_of_getElem? h2)).1;have hkey:keyOf Tryz.prog 9 (.string x.mod.name)=some (.string x.mod.name.data.toList):=keyOf_string_mk Tryz.underlying9 hn;have cm:=hO2.cm;have c0:=hO2.c0;have lm:w.heap.size+1+1<w2.heap.size:=by have:=hO2.lt;omega
    have l0:w.heap.size<w2.heap.size:=by have:=hO2.lt;omega
    have hbn2:b<w2.heap.size:=by omega
    have hown:=hO2.own;have HML:Hid (met.length=k):=HM.out.1;clear hcells h1 h2 hO2 HM HST HN e2 hmm;obtain ⟨⟨N,ma,mi,T,es,is,ps⟩,ve,vi,vp,fi⟩:=x;dsimp only at cn hn hkey HE;rw [Nat.add_zero] at cn;go_wp2_with fail;refine wp_region_noPanic ?_;refine Zba (S:=fun w'=>w'.cell? ⟨w.heap.size+1+1,0,none⟩=some (.map (some (w.heap.size+1)))∧w'.cell? ⟨w.heap.size,0,none⟩=some (.slice (some ⟨b,off,none⟩) rs.length rc)∧w'.cell? ⟨b,off+j*7,none⟩=some (.string N)) (x:=7) (by kernel_rfl) ?_;have hS0:w2.drew.cell? ⟨w.heap.size+1+1,0,none⟩=some (.map (some (w.heap.size+1)))∧w2.drew.cell? ⟨w.heap.size,0,none⟩=some (.slice (some ⟨b,off,none⟩) rs.length rc)∧w2.drew.cell? ⟨b,off+j*7,none⟩=some (.string N):=⟨cm,c0,cn⟩;refine Zaa 0 21 (.map (some (w.heap.size+1))) rfl (by kernel_rfl) (fun _ _ _ h=>h) hS0 rfl rfl (fun w' hSw=>by (try dsimp only at hSw);go_simp) ?_;simp only [List.setIfInBounds_toArray,List.set_cons_zero,List.set_cons_succ];refine Zaa 1 22 (.slice (some ⟨b,off,none⟩) rs.length rc) rfl (by kernel_rfl) (fun _ _ _ h=>h) hS0 rfl rfl (fun w' hSw=>by (try dsimp only at hSw);go_simp) ?_;simp only [List.setIfInBounds_toArray,List.set_cons_zero,List.set_cons_succ];refine Zaa 2 23 (.int .i64 j) rfl (by kernel_rfl) (fun _ _ _ h=>h) hS0 rfl rfl (fun w' hSw=>by (try dsimp only at hSw);go_simp) ?_;simp only [List.setIfInBounds_toArray,List.set_cons_zero,List.set_cons_succ];refine Zaa 3 24 (.pointer (some ⟨b,off+j*7,none⟩)) rfl (by kernel_rfl) (fun _ _ _ h=>h) hS0 rfl rfl (fun w' hSw=>by (try dsimp only at hSw);go_simp) ?_;simp only [List.setIfInBounds_toArray,List.set_cons_zero,List.set_cons_succ];refine Zaa 4 25 (.pointer (some ⟨b,off+j*7,none⟩)) rfl (by kernel_rfl) (fun _ _ _ h=>h) hS0 rfl rfl (fun w' hSw=>by (try dsimp only at hSw);go_simp) ?_;simp only [List.setIfInBounds_toArray,List.set_cons_zero,List.set_cons_succ];refine Zaa 5 26 (.string N) rfl (by kernel_rfl) (fun _ _ _ h=>h) hS0 rfl rfl (fun w' hSw=>by (try dsimp only at hSw);go_simp) ?_;simp only [List.setIfInBounds_toArray,List.set_cons_zero,List.set_cons_succ];refine Zaa 6 27 (.int .i64 j) rfl (by kernel_rfl) (fun _ _ _ h=>h) hS0 rfl rfl (fun w' hSw=>by (try dsimp only at hSw);go_simp) ?_;simp only [List.setIfInBounds_toArray,List.set_cons_zero,List.set_cons_succ];refine Zbo (x:=7) rfl (by kernel_rfl) (by kernel_rfl) (fun K hK=>?_);obtain ⟨w3,hrun,hown3,hg3⟩:=hown.drew.update lawS Tryz.underlying171 (by unfold maxLen;omega) hkey (plainElem_int Tryz.underlying3 (WalkArith.wf_i64 (n:=(j:Int)) (by omega)));go_simp;refine hK.out _ _ ?_;refine NoPanic.normal ?_;have hOd:OrdAt w2.drew w.heap.size k D (.slice (some ⟨b,off,none⟩) rs.length rc) rs met:=HO2.out.below ((Below.refl _ _).drew);have HO3:Hid (OrdAt w3 w.heap.size (k+1) (D.put (.string N.data.toList) (.lit (.int .i64 j))) (.slice (some ⟨b,off,none⟩) rs.length rc) rs (met++[N])):=hOd.put hg3 hown3 (HO2.out.has.put HO2.out.own.isMap N _);have c03:=HO3.out.c0;have l03:w.heap.size<w3.heap.size:=by have:=HO3.out.lt;omega
    have BB:Below w.heap.size w2 w3:=((Below.refl _ _).drew).grown hg3 (by show w.heap.size≤w2.heap.size;omega) (fun i hi=>by injection hi with hi;omega);have cn3:=(BB.cell (p:=⟨b,off+j*7,none⟩) hbn).trans cn;have B3:=B2.trans BB;have own3:=own2.drew.kept hg3 (.inr (fun e=>by have:=ZaP own2 _ e;omega));have HSZ:Hid (w.heap.size+1+1+1<w3.heap.size):=HO3.out.lt;have HB3:Hid (Below w.heap.size w w3):=B3;clear hK K hS0 hrun hown3 hg3 hOd HO2 own2 B2 BB cm c0 cn lm l0 hown B B3 hkey;generalize hacc:met.flatMap strC=acc at own3;have HACC:Hid (met.flatMap strC=acc):=hacc;clear hacc;go_wp2_with (at_builtin;refine wpList_append_lies _ rfl _ _ _ rfl (w.heap.size+4) 9 ii _ 1 16 Tryz.underlying67 hii hz0 hz1 hz2 rfl (by omega) (.slice av k kv) k acc rfl (own3.alloc _) ⟨w3.heap.size,0,none⟩ 1 1 [.string N] rfl rfl (World.news_of_block (cs:=#[.string N]) (t:=9) (fr:=(0,0)) (Za.new w3 9 #[.string N])) (by simp [Value.oneCell']) (by omega) (by unfold maxLen;omega) (by omega) (by have:=HSZ.out;simp;omega) (w3.heap.size+1) (by simp) ?_;intro g gc w8 hown8 hgrow hat hltg);have B8:Below (w.heap.size+4) w3 w8:=((Below.refl _ _).alloc (by have:=HSZ.out;omega) _).grown hgrow (by have:=HSZ.out;simp;omega) (fun i hi=>ZaP own3 i hi);exact ⟨⟨k+1,met++[N],_,by omega,by go_num,⟨by rw [List.length_append,HML.out];rfl,HE.out⟩,HO3.out.keep B8 (by omega),by rw [List.flatMap_append,HACC.out];exact hown8,HB3.out.trans (B8.mono (by omega))⟩,by simp [intOf];omega⟩
  ·obtain rfl:k=rs.length:=by omega
   have HE:Hid (OR=(met,0)):=HY.out met (by rw [HM.out.2,Nat.sub_self,HS0.out]);have HL:=HM.out.1;go_wp2;go_ret2;refine ⟨⟨_,by rw [HE.out];rfl,?_,own_cap hown,by rw [HE.out];show wr.ownsRow _ _ _ _ met.length (met.flatMap strC);rw [HL];exact ZbR hown (by omega)⟩,B⟩;rw [HE.out]
   show Zal 1 Zbn wr.heap.size wr _ met
   rw [← HL] at hown ⊢;exact ZbX (C:=strC) (cells:=Zbn) (sz:=1) (fun _=>rfl) strC_at hown (by omega)
end Go.Proofs.YtlpnfbpgnfappaaGreat
