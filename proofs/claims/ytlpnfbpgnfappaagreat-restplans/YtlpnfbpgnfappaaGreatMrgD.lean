/- Texts that are laid together. -/
import Derived.Test.YtlpnfbpgnfappaaGreatMrgC
import Derived.Laws.IdiomStrings
import Derived.Test.YtlpnfbpgnfappaaGreatMrgA
import Derived.Laws.BitsLemmas
import Derived.Laws.Bits64
import Derived.Laws.EntriesVeiled
set_option maxHeartbeats 256000000
set_option maxRecDepth 100000

namespace Go.Proofs.YtlpnfbpgnfappaaGreat
open Go.RowKit Go.Shelf Go.PlainAid
attribute [local go_sem] Oper.semAt_some
def HoldsB (W:World) (b:Nat) (l:List UInt8):Prop:=∀ j v,l[j]?=some v→W.cell? ⟨b,j,none⟩=some (.int .u8 (v.toNat:Int))∧W.frozen? ⟨b,j,none⟩=false
theorem HoldsB.set {W:World} {b:Nat} {l:List UInt8} (h:HoldsB W b l) (i:Nat) (v:UInt8) (hi:i<l.length):HoldsB (W.setCell ⟨b,i,none⟩ (.int .u8 (v.toNat:Int))).drew b (l.set i v):=by
 intro j u hj
 show (W.setCell ⟨b,i,none⟩ (.int .u8 (v.toNat:Int))).cell? ⟨b,j,none⟩=_∧(W.setCell ⟨b,i,none⟩ (.int .u8 (v.toNat:Int))).frozen? ⟨b,j,none⟩=false
 rw [World.frozen?_setCell]
 by_cases e:i=j
 ·subst e
  rw [List.getElem?_set_self hi] at hj
  cases hj
  obtain ⟨h1,h2⟩:=h i l[i] (List.getElem?_eq_getElem hi);exact ⟨World.cell?_setCell_same' _ _ _ (by rw [h1];rfl),h2⟩
 ·rw [List.getElem?_set_ne e] at hj
  obtain ⟨h1,h2⟩:=h j u hj;exact ⟨(World.cell?_setCell_other _ _ _ _ (by intro h;cases h;exact e rfl)).trans h1,h2⟩
theorem HoldsB.alloc {W:World} {b:Nat} {l:List UInt8} (h:HoldsB W b l) (o:Obj):HoldsB (W.alloc o) b l:=fun j v hj=>
 ⟨cell_kept (h j v hj).1 (World.grownBy_alloc W o none) (fun r e=>by cases e),(frozen_kept (h j v hj).1 (World.grownBy_alloc W o none) (fun r e=>by cases e)).trans (h j v hj).2⟩
theorem holdsB_own {β:Type} (b:Nat) (f:β→List UInt8):Own (fun s W=>HoldsB W b (f s)):=fun _ _ _ _ hs hg hr j v hj=>
 ⟨cell_kept (hs j v hj).1 hg hr,(frozen_kept (hs j v hj).1 hg hr).trans (hs j v hj).2⟩
theorem boxed_otherAt {W:World} {B B':Nat} {t:TypeId} {v:Value} (h:Boxed W B t v) (hne:B≠B') (o:Nat) (u:Value):Boxed (W.setCell ⟨B',o,none⟩ u).drew B t v:=
 (Below.heap_setCell W ⟨B',o,none⟩ u B hne).trans h
theorem pow_256 (x:Nat):(2:Int) ^ (8*x)=256 ^ x:=by rw [Int.pow_mul];rfl
theorem bytes_of_string (w:World) (n:Int) (s:ByteArray):∃ cap W1,Sem.run Tryz.prog (convert 9 117 (Value.string s)) (w.alloc (.cells #[.int .i64 n] 3))=.ok (.slice (some ⟨w.heap.size+1,0,none⟩) s.size cap) W1∧
  W1.heap.size=w.heap.size+1+1∧HoldsB W1 (w.heap.size+1) s.data.toList∧Boxed W1 w.heap.size 3 (.int .i64 n)∧Below w.heap.size w W1:=by
 have h:=run_bytes_of_string (P:=Tryz.prog) (w.alloc (.cells #[.int .i64 n] 3)) 9 117 5 s Tryz.underlying9 Tryz.underlying117 Tryz.underlying5;rw [World.size_alloc] at h;refine ⟨_,_,h,by simp,?_,?_,?_⟩
 ·intro j v hj
  have hj':j<s.data.size:=by have:=(List.getElem?_eq_some_iff.1 hj).1;simpa using this
  have h1:=World.cell?_alloc_mark (w.alloc (.cells #[.int .i64 n] 3)).drew (bytesRow s (grownCap (w.alloc (.cells #[.int .i64 n] 3)) s.size 0 5)) 5 ((bytesRow s (grownCap (w.alloc (.cells #[.int .i64 n] 3)) s.size 0 5)).size,(bytesRow s (grownCap (w.alloc (.cells #[.int .i64 n] 3)) s.size 0 5)).size+1) j;have h2:=World.frozen?_alloc_mark (w.alloc (.cells #[.int .i64 n] 3)).drew (bytesRow s (grownCap (w.alloc (.cells #[.int .i64 n] 3)) s.size 0 5)) 5 (bytesRow s (grownCap (w.alloc (.cells #[.int .i64 n] 3)) s.size 0 5)).size ((bytesRow s (grownCap (w.alloc (.cells #[.int .i64 n] 3)) s.size 0 5)).size+1) j;have e:(w.alloc (.cells #[.int .i64 n] 3)).drew.heap.size=w.heap.size+1:=World.size_alloc _ _;rw [e] at h1 h2;refine ⟨h1.trans ?_,h2.trans ?_⟩
  ·rw [bytesRow_at s _ j hj']
   have:s.data[j]=v:=by
    have:=(List.getElem?_eq_some_iff.1 hj).2
    simpa using this
   rw [this]
  ·have:j<(bytesRow s (grownCap (w.alloc (.cells #[.int .i64 n] 3)) s.size 0 5)).size:=by
    have:s.data.size=s.size:=rfl
    simp [bytesRow];omega
   rw [decide_eq_false (by omega)];rfl
 ·exact (show Boxed (w.alloc (.cells #[.int .i64 n] 3)).drew w.heap.size 3 (.int .i64 n) from Boxed.new w 3 (.int .i64 n)).alloc _
 ·exact (((Below.refl _ w).alloc (Nat.le_refl _) _).drew).alloc (by simp) _
theorem put_ok_in (s:ByteArray) (at' m:Nat) (n:Int) (w:World)
  (hs:s.size≤140737488351232) (hm1:1≤m) (hm:m≤4) (ha:at'+m≤s.size) :
  CallsIn Fence.wide 8 Tryz.prog 167 #[.string s,.int .i64 at',.int .i64 m,.int .i64 n] w fun e w'=>
   e=.returned (.tuple #[.string (putS s at' m n),.int .i64 0])∧Below w.heap.size w w':=by
 have hwr:ZaZ s.size at' m=0:=by unfold ZaZ;rw [if_neg (by omega),if_neg (by omega)]
 obtain ⟨cap,W1,hconv,hsz,hb1,bn1,hbl1⟩:=bytes_of_string w n s;refine callsIn_of_wp_marks Tryz.func167 rfl trivial ?_ rfl;simp only [Tryz.ntmps167,List.size_toArray,List.length_cons,List.length_nil,Nat.reduceAdd,Nat.reduceSub,Array.replicate_succ,Array.replicate_zero,List.push_toArray,List.append_toArray,List.nil_append,List.cons_append]
 gi_wp2_with (first
  | (refine ⟨trivial,?_⟩;gi_at_call 187;refine (callsIn_wide.2 (wrongPlace_any _ _ _ _ (by omega) (by omega))).mono ?_;rw [hwr];rintro e w' ⟨rfl,rfl⟩)
  | (refine ⟨trivial,?_⟩;gi_at_call 188;refine (bytesOf_in Fence.wide _ trivial rfl _ _ _).mono ?_;rintro e w' ⟨rfl,rfl⟩))
 have bn:=((bn1.alloc (.cells #[.slice (some ⟨w.heap.size+1,0,none⟩) s.size cap] 117)).alloc (.cells #[.int .i64 at'] 3)).alloc (.cells #[.int .i64 m] 3);have bt0:=((Boxed.new W1 117 (.slice (some ⟨w.heap.size+1,0,none⟩) s.size cap)).alloc (.cells #[.int .i64 at'] 3)).alloc (.cells #[.int .i64 m] 3);have ba:=(Boxed.new (W1.alloc (.cells #[.slice (some ⟨w.heap.size+1,0,none⟩) s.size cap] 117)) 3 (.int .i64 at')).alloc (.cells #[.int .i64 m] 3);have bm:=Boxed.new ((W1.alloc (.cells #[.slice (some ⟨w.heap.size+1,0,none⟩) s.size cap] 117)).alloc (.cells #[.int .i64 at'] 3)) 3 (.int .i64 m);simp only [World.size_alloc,hsz] at bt0 ba bm;have hb0:HoldsB (((W1.alloc (.cells #[.slice (some ⟨w.heap.size+1,0,none⟩) s.size cap] 117)).alloc (.cells #[.int .i64 at'] 3)).alloc (.cells #[.int .i64 m] 3)) (w.heap.size+1) s.data.toList:=
  ((hb1.alloc _).alloc _).alloc _
 have hB0:Below w.heap.size w (((W1.alloc (.cells #[.slice (some ⟨w.heap.size+1,0,none⟩) s.size cap] 117)).alloc (.cells #[.int .i64 at'] 3)).alloc (.cells #[.int .i64 m] 3)):=
  ((hbl1.alloc (by omega) _).alloc (by simp;omega) _).alloc (by simp;omega) _
 refine wpIn_rangeFunc_ownF rfl (by omega) (gf:=214) (lb:=#[.pointer (some ⟨w.heap.size+1+1+1+1,0,none⟩),.pointer (some ⟨w.heap.size+1+1+1,0,none⟩)]) rfl trivial (enters_of Tryz.func214 (by kernel_rfl) rfl)
  (bytesOf_stops Fence.wide _ trivial rfl (by omega) (w.heap.size+1+1+1) (w.heap.size+1+1+1+1) at' m hm (by omega) _ (by simp;omega) (by simp;omega) ba.cell bm.cell) ZbZ.trans (keepsTwo_b (by simp;omega) (by simp;omega)) (Below.refl _ _) (fun _=>rfl)
  (fun pre W=>((Boxed W w.heap.size 3 (.int .i64 n)∧Boxed W (w.heap.size+1+1) 117 (.slice (some ⟨w.heap.size+1,0,none⟩) s.size cap))∧HoldsB W (w.heap.size+1) (Zcp s at' n (pre.map (·.1))))∧Below w.heap.size w W)
  (fun _ _ _=>False)
  (OwnFrom.and (OwnFrom.and (OwnFrom.and (Own.from (boxed_own _ _ _) _) (Own.from (boxed_own _ _ _) _)) (Own.from (holdsB_own _ _) _)) (ownFrom_below (Nat.le_refl _) (by simp;omega)))
  (fun _ _ _ _ _ hs _ _=>hs)
  ⟨⟨⟨bn,bt0⟩,hb0⟩,hB0⟩
  (fun x=>{ tmps:=#[.string s,.int .i64 at',.int .i64 m,.int .i64 n,undef,undef,undef,.pointer (some ⟨w.heap.size,0,none⟩),.string ⟨#[]⟩,.int .i64 0,.int .i64 0,.pointer (some ⟨w.heap.size+1+1,0,none⟩),
    .int .i64 (at'+x.1),.int .i64 (8*(x.1:Int)),.string s,.int .i64 s.size,.int .i64 at',.int .i64 m,.int .i64 0,.int .i64 0,.bool false,undef,.string s,.slice (some ⟨w.heap.size+1,0,none⟩) s.size cap,.int .i64 at',.int .i64 m,
    .func (.func 214) #[] #[.pointer (some ⟨w.heap.size+1+1+1+1,0,none⟩),.pointer (some ⟨w.heap.size+1+1+1,0,none⟩)],.int .i64 (at'+x.1),.int .i64 (8*(x.1:Int)),
    undef,undef,undef,undef,undef,undef,undef,undef,undef],defers:=[] }) ?assign ?body ?done ?stop
 case assign=>
  intro l x W K hK
  gi_wp2
  exact hK
 case body=>
  rintro l pre ⟨x,hx⟩ W ⟨⟨⟨hbn,hbt⟩,hbb⟩,hB⟩ _;have hcn:=hbn.cell;have hct:=hbt.cell;have hlen:=putFold_length s at' n (pre.map (·.1));obtain ⟨b0,hb0'⟩:∃ v,(Zcp s at' n (pre.map (·.1)))[at'+x]?=some v:=⟨_,List.getElem?_eq_getElem (by omega)⟩;obtain ⟨hcc,hfc⟩:=hbb (at'+x) b0 hb0';have hset:=hbb.set (at'+x) (byteOf n x) (by omega);have HB:=byteOf_toNat n x;have HBN:Hid (HoldsB (W.setCell ⟨w.heap.size+1,at'+x,none⟩ (.int .u8 (n / 2 ^ (8*x) % 256))).drew (w.heap.size+1) ((Zcp s at' n (pre.map (·.1))).set (at'+x) (byteOf n x))):=by rw [pow_256,← HB];exact hset
  clear bn bt0 ba bm hB0 hwr hb0 hb1 bn1 hbl1 hconv hlen HB hset hb0';have hmx:Tryz.prog.follows .mixedOrders=true:=by kernel_rfl
  have hx0:(at':Int)+x<s.size:=by omega
  have hx1:(x:Int)≤3:=by omega
  gi_wp2
  gi_region_o
  all_goals gi_wp2
  all_goals (try go_bits)
  all_goals
   exact ⟨(KeepsOthers.setCell _ _ _).trans (KeepsOthers.drew _),keepsTwo_set (by omega) (by omega) _ _,⟨⟨boxed_otherAt hbn (by omega) _ _,boxed_otherAt hbt (by omega) _ _⟩,by rw [List.map_append,List.map_cons,List.map_nil,putFold_snoc];exact HBN.out⟩,(hB.setCell (p:=⟨w.heap.size+1,at'+x,none⟩) (Nat.le_succ _) _).drew⟩
 case done=>
  rintro D ys W hD hys ⟨⟨⟨_,hbt⟩,hbb⟩,hB⟩ hK;have hct:=hbt.cell;have hlen:=putFold_length s at' n (List.range m);rw [hys] at hbb;have hback:=run_convert_bytes_back (P:=Tryz.prog) W 117 9 5 ⟨w.heap.size+1,0,none⟩ cap (Zcp s at' n (List.range m)) Tryz.underlying117 Tryz.underlying5 Tryz.underlying9
   (fun j hj=>by
    have:=(hbb j _ (List.getElem?_eq_getElem hj)).1
    by_cases e:j=0
    ·subst e;simpa [Addr.add] using this
    ·simpa [Addr.add,e] using this)
  rw [hlen] at hback
  change _=Result.ok (Value.string (putS s at' m n)) W at hback
  clear bn bt0 ba bm hB0 hwr hb0 hb1 bn1 hbl1 hconv hlen hbb hys hbt
  gi_wp2
  refine ⟨by simp,.inl ⟨_,_,rfl,run_takeDeferred hK,?_⟩⟩;exact ⟨_,by simp [results,Tryz.f167,go_sem],rfl,hB.trans (belowK_b (w:=w) (Nat.le_refl _) W D _ _ (by simp at hD;omega) hK rfl rfl)⟩
 case stop=>
  rintro D c pre W _ _ h _;exact h.elim
end Go.Proofs.YtlpnfbpgnfappaaGreat
namespace Go.Proofs.YtlpnfbpgnfappaaGreat
open Go.RowKit Go.PlainAid
def getR (s:ByteArray) (at' bytes:Int):Int:=if ZaZ s.size at' bytes=0 then getN s at'.toNat bytes.toNat else 0
def putR (s:ByteArray) (at' bytes n:Int):ByteArray:=if ZaZ s.size at' bytes=0 then putS s at'.toNat bytes.toNat n else ⟨#[]⟩
theorem wrongAt_zero {len at' bytes:Int} (h:ZaZ len at' bytes=0):1≤bytes∧bytes≤4∧0≤at'∧at'+bytes≤len:=by
 unfold ZaZ at h
 split at h
 ·omega
 ·split at h
  ·omega
  ·omega
theorem get_any (s:ByteArray) (at' bytes:Int) (w:World) (hs:s.size≤140737488351232) :
  Calls Tryz.prog 168 #[.string s,.int .i64 at',.int .i64 bytes] w fun e w'=>
   e=.returned (.tuple #[.int .i64 (getR s at' bytes),.int .i64 (ZaZ s.size at' bytes)])∧Below w.heap.size w w':=by
 by_cases h:ZaZ s.size at' bytes=0
 ·obtain ⟨h1,h2,h3,h4⟩:=wrongAt_zero h
  rw [getR,if_pos h,h];obtain ⟨a,rfl⟩:=Int.eq_ofNat_of_zero_le h3;obtain ⟨b,rfl⟩:=Int.eq_ofNat_of_zero_le (show 0≤bytes by omega);exact callsIn_wide.1 (get_ok_in s a b w hs (by omega) (by omega) (by omega))
 ·rw [getR,if_neg h]
  have hb:(ZaZ s.size at' bytes != 0)=true:=by simpa using h
  clear h;generalize hx:ZaZ s.size at' bytes=x at hb;have HX:Hid (ZaZ s.size at' bytes=x):=hx;clear hx
  go_enter Tryz.func168,Tryz.ntmps168
  go_wp2_with (go_at_call 187;refine (wrongPlace_any _ _ _ _ (by omega) (by omega)).mono ?_;rw [HX.out];rintro e w' ⟨rfl,rfl⟩);go_ret2;exact ⟨rfl,(Below.refl _ _).alloc (Nat.le_refl _) _⟩
theorem put_any (s:ByteArray) (at' bytes n:Int) (w:World) (hs:s.size≤140737488351232) :
  Calls Tryz.prog 167 #[.string s,.int .i64 at',.int .i64 bytes,.int .i64 n] w fun e w'=>
   e=.returned (.tuple #[.string (putR s at' bytes n),.int .i64 (ZaZ s.size at' bytes)])∧Below w.heap.size w w':=by
 by_cases h:ZaZ s.size at' bytes=0
 ·obtain ⟨h1,h2,h3,h4⟩:=wrongAt_zero h
  rw [putR,if_pos h,h];obtain ⟨a,rfl⟩:=Int.eq_ofNat_of_zero_le h3;obtain ⟨b,rfl⟩:=Int.eq_ofNat_of_zero_le (show 0≤bytes by omega);exact callsIn_wide.1 (put_ok_in s a b n w hs (by omega) (by omega) (by omega))
 ·rw [putR,if_neg h]
  have hb:(ZaZ s.size at' bytes != 0)=true:=by simpa using h
  clear h;generalize hx:ZaZ s.size at' bytes=x at hb;have HX:Hid (ZaZ s.size at' bytes=x):=hx;clear hx
  go_enter Tryz.func167,Tryz.ntmps167
  go_wp2_with (go_at_call 187;refine (wrongPlace_any _ _ _ _ (by omega) (by omega)).mono ?_;rw [HX.out];rintro e w' ⟨rfl,rfl⟩);go_ret2;exact ⟨rfl,(Below.refl _ _).alloc (Nat.le_refl _) _⟩
def Zcn (sym add place:Int):Bool:=betw sym 0 65535 && betw place 0 65535 && betw add 0 65535
def Zb (kind sym add place:Int):Int:=
 if width kind=0 then 7 else if Zcn sym add place=false then 3 else if kind=5∧(sym+add-place) % 2=1 then 4 else 0
def rawVal (kind sym add place:Int):Int:=
 if kind=1 then sym+add else if kind=2 then (sym+add-place) % 4294967296 else if kind=3 then (sym+add) / 65536 else if kind=4 then (sym+add) % 65536 else ((sym+add-place) / 2) % 16777216
def ZbB (kind sym add place:Int):Int:=if Zb kind sym add place=0 then rawVal kind sym add place else 0
theorem valRange_true {sym add place:Int} (h:Zcn sym add place=true):0≤sym∧sym≤65535∧0≤place∧place≤65535∧0≤add∧add≤65535:=by
 unfold Zcn at h;simp only [Bool.and_eq_true,Zcv] at h
 omega
theorem val_cases (kind sym add place:Int) :
  (width kind=0∧Zb kind sym add place=7∧ZbB kind sym add place=0)∨
  (width kind≠0∧Zcn sym add place=false∧Zb kind sym add place=3∧ZbB kind sym add place=0)∨
  (Zcn sym add place=true∧(
   (kind=1∧Zb kind sym add place=0∧ZbB kind sym add place=sym+add)∨
   (kind=2∧Zb kind sym add place=0∧ZbB kind sym add place=(sym+add-place) % 4294967296)∨
   (kind=3∧Zb kind sym add place=0∧ZbB kind sym add place=(sym+add) / 65536)∨
   (kind=4∧Zb kind sym add place=0∧ZbB kind sym add place=(sym+add) % 65536)∨
   (kind=5∧(sym+add-place) % 2=1∧Zb kind sym add place=4∧ZbB kind sym add place=0)∨
   (kind=5∧(sym+add-place) % 2=0∧Zb kind sym add place=0∧ZbB kind sym add place=((sym+add-place) / 2) % 16777216))):=by
 by_cases h0:width kind=0
 ·exact .inl ⟨h0,by simp [Zb,h0],by simp [ZbB,Zb,h0]⟩
 cases hr:Zcn sym add place
 ·exact .inr (.inl ⟨h0,rfl,by simp [Zb,h0,hr],by simp [ZbB,Zb,h0,hr]⟩)
 refine .inr (.inr ⟨rfl,?_⟩)
 rcases width_cases kind with ⟨rfl,h⟩ | ⟨rfl,h⟩ | ⟨rfl,h⟩ | ⟨rfl,h⟩ | ⟨rfl,h⟩ | ⟨h1,h2,h3,h4,h5,h⟩
 ·have e:Zb 1 sym add place=0:=by simp [Zb,h,hr]
  exact .inl ⟨rfl,e,by simp [ZbB,e,rawVal]⟩
 ·have e:Zb 2 sym add place=0:=by simp [Zb,h,hr]
  exact .inr (.inl ⟨rfl,e,by simp [ZbB,e,rawVal]⟩)
 ·have e:Zb 3 sym add place=0:=by simp [Zb,h,hr]
  exact .inr (.inr (.inl ⟨rfl,e,by simp [ZbB,e,rawVal]⟩))
 ·have e:Zb 4 sym add place=0:=by simp [Zb,h,hr]
  exact .inr (.inr (.inr (.inl ⟨rfl,e,by simp [ZbB,e,rawVal]⟩)))
 ·by_cases hp:(sym+add-place) % 2=1
  ·have e:Zb 5 sym add place=4:=by simp [Zb,h,hr,hp]
   exact .inr (.inr (.inr (.inr (.inl ⟨rfl,hp,e,by simp [ZbB,e]⟩))))
  ·have e:Zb 5 sym add place=0:=by simp [Zb,h,hr];omega
   exact .inr (.inr (.inr (.inr (.inr ⟨rfl,by omega,e,by simp [ZbB,e,rawVal]⟩))))
 ·exact absurd h h0
theorem Zct (n:Int) (w:World):Calls Tryz.prog 245 #[.int .i64 n] w fun e w'=>e=.returned (.bool (betw n 0 65535))∧w'=w:=by
 by_cases h1:0≤n
 ·by_cases h2:n≤65535
  ·rw [ZaL h1 h2]
   go_enter Tryz.func245,Tryz.ntmps245
   go_wp2;go_ret;exact ⟨rfl,rfl⟩
  ·rw [Zar (.inr (by omega))]
   have h3:decide (n≤65535)=false:=decide_eq_false h2
   go_enter Tryz.func245,Tryz.ntmps245
   go_wp2;go_ret;exact ⟨rfl,rfl⟩
 ·rw [Zar (.inl (by omega))]
  have h3:decide (0≤n)=false:=decide_eq_false h1
  go_enter Tryz.func245,Tryz.ntmps245
  go_wp2;go_ret;exact ⟨rfl,rfl⟩
def widthErr (k:Int):Int:=if width k=0 then 7 else 0
theorem Zbs (k:Int) (w:World):Calls Tryz.prog 240 #[.int .i64 k] w fun e w'=>e=.returned (.tuple #[.int .i64 (width k),.int .i64 (widthErr k)])∧w'=w:=by
 have HW:Hid (∀ w,Calls Tryz.prog 163 #[.int .i64 k] w fun e w'=>e=.returned (.int .i64 (width k))∧w'=w):=fun w=>patched_any k w;unfold widthErr
 by_cases h:width k=0
 ·rw [if_pos h]
  rw [h] at HW ⊢;clear h
  go_enter Tryz.func240,Tryz.ntmps240
  go_wp2_with (go_at_call 163;refine (HW.out _).mono ?_;rintro e w' ⟨rfl,rfl⟩);go_ret2;exact ⟨rfl,rfl⟩
 ·rw [if_neg h]
  have h0:(width k == 0)=false:=beq_eq_false_iff_ne.2 h;clear h;generalize width k=m at *
  go_enter Tryz.func240,Tryz.ntmps240
  go_wp2_with (go_at_call 163;refine (HW.out _).mono ?_;rintro e w' ⟨rfl,rfl⟩);go_ret2;exact ⟨rfl,rfl⟩
theorem tdiv2_bd (n:Int):n / 2≤n.tdiv 2∧n.tdiv 2≤n / 2+1:=by
 rw [Int.tdiv_eq_ediv]
 split
 ·omega
 ·have:Int.sign 2=1:=rfl
  omega
theorem tdiv2_even (n:Int) (h:n % 2=0):n.tdiv 2=n / 2:=by
 rw [Int.tdiv_eq_ediv,if_pos (.inr (by omega))]
 omega
theorem tmod2_even (n:Int):(n.tmod 2 == 0)=(n % 2 == 0):=by
 rw [Bool.eq_iff_iff,beq_iff_eq,beq_iff_eq];rw [Int.tmod_eq_emod]
 split
 ·omega
 ·have:(Int.natAbs 2:Int)=2:=rfl
  omega
theorem and_low (s:Int) (h0:0≤s) (h1:s≤131070):bits .and .i64 s 65535=s % 65536:=by
 have h:=bits_mask .i64 63 (by decide) (fun n a b=>by rw [IntKind.wrap_i64];omega) 16 (by decide) s h0 (by omega);have e:((2:Int) ^ 16-1)=65535:=by decide
 have e2:((2:Int) ^ 16)=65536:=by decide
 rwa [e,e2] at h
theorem half_any (far:Int) (h0:-65535≤far) (h1:far≤131070) (w:World):Calls Tryz.prog 255 #[.int .i64 far] w fun e w'=>e=.returned (.tuple #[.int .i64 (far.tdiv 2),.bool (far.tmod 2 == 0)])∧w'=w:=by
 have b2:=tdiv2_bd far;have b0:-8388608≤far.tdiv 2:=by omega
 have b1:far.tdiv 2<8388608:=by omega
 clear b2
 cases hc:far.tmod 2 == 0
 ·go_enter Tryz.func255,Tryz.ntmps255
  go_wp2;go_ret2;exact ⟨rfl,rfl⟩
 ·go_enter Tryz.func255,Tryz.ntmps255
  go_wp2;go_ret2;exact ⟨rfl,rfl⟩
theorem formula1_any (s p:Int) (w:World):Calls Tryz.prog 250 #[.int .i64 s,.int .i64 p] w fun e w'=>e=.returned (.tuple #[.int .i64 s,.bool true])∧w'=w:=by
 go_enter Tryz.func250,Tryz.ntmps250
 go_wp2;go_ret2;exact ⟨rfl,rfl⟩
theorem formula2_any (s p:Int) (h0:0≤s) (h1:s≤131070) (h2:0≤p) (h3:p≤65535) (w:World):Calls Tryz.prog 251 #[.int .i64 s,.int .i64 p] w fun e w'=>e=.returned (.tuple #[.int .i64 (s-p),.bool true])∧w'=w:=by
 go_enter Tryz.func251,Tryz.ntmps251
 go_wp2;go_ret2;exact ⟨rfl,rfl⟩
theorem formula3_any (s p:Int) (w:World):Calls Tryz.prog 252 #[.int .i64 s,.int .i64 p] w fun e w'=>e=.returned (.tuple #[.int .i64 (s / 65536),.bool true])∧w'=w:=by
 go_enter Tryz.func252,Tryz.ntmps252
 go_wp2;go_ret2;exact ⟨rfl,rfl⟩
theorem formula4_any (s p:Int) (h0:0≤s) (h1:s≤131070) (w:World):Calls Tryz.prog 253 #[.int .i64 s,.int .i64 p] w fun e w'=>e=.returned (.tuple #[.int .i64 (s % 65536),.bool true])∧w'=w:=by
 go_enter Tryz.func253,Tryz.ntmps253
 go_wp2;go_ret2;exact ⟨by rw [← and_low s h0 h1];rfl,rfl⟩
theorem formula5_any (s p:Int) (h0:0≤s) (h1:s≤131070) (h2:0≤p) (h3:p≤65535) (w:World):Calls Tryz.prog 254 #[.int .i64 s,.int .i64 p] w fun e w'=>e=.returned (.tuple #[.int .i64 ((s-p).tdiv 2),.bool ((s-p).tmod 2 == 0)])∧w'=w:=by
 have HH:Hid (∀ w,Calls Tryz.prog 255 #[.int .i64 (s-p)] w fun e w'=>e=.returned (.tuple #[.int .i64 ((s-p).tdiv 2),.bool ((s-p).tmod 2 == 0)])∧w'=w):=fun w=>half_any (s-p) (by omega) (by omega) w
 go_enter Tryz.func254,Tryz.ntmps254
 go_wp2_with (go_at_call 255;refine (HH.out _).mono ?_;rintro e w' ⟨rfl,rfl⟩);go_ret2;exact ⟨rfl,rfl⟩
def formulaRow:Array Value:=#[.int .i64 1,.func (.func 250) #[] #[],.int .i64 2,.func (.func 251) #[] #[],.int .i64 3,.func (.func 252) #[] #[],.int .i64 4,.func (.func 253) #[] #[],.int .i64 5,.func (.func 254) #[] #[]]
theorem formulas_any (w:World):Calls Tryz.prog 247 #[] w fun e w'=>e=.returned (.slice (some ⟨w.heap.size,0,none⟩) 5 5)∧w'=w.alloc (.cells formulaRow 273):=by
 go_enter Tryz.func247,Tryz.ntmps247
 go_wp2;go_ret;exact ⟨rfl,rfl⟩
theorem isKind_any (B:Nat) (k K:Int) (f:Value) (w:World) (hlt:B<w.heap.size) (hB:w.cell? ⟨B,0,none⟩=some (.int .i64 k)):Calls Tryz.prog 249 #[.agg #[.int .i64 K,f],.pointer (some ⟨B,0,none⟩)] w fun e w'=>e=.returned (.bool (K == k))∧Below w.heap.size w w':=by
 go_enter Tryz.func249,Tryz.ntmps249
 go_wp2
 trace_state
 go_ret;exact ⟨rfl,(Below.refl _ _).alloc (Nat.le_refl _) _⟩
def idxFrom {α:Type} (p:α→Bool) (k:Nat):List α→Int
 | []=>-1
 | x::l=>if p x then (k:Int) else idxFrom p (k+1) l
structure Formula where
 kind:Int
 value:Value
def Formula.cell (f:Formula):Nat→Value
 | 0=>.int .i64 f.kind
 | _=>f.value
theorem idxFormula_any (l:List Formula) (v:Value) (K:FuncId) (c:Value) (hK:∀ w x,Sem.run Tryz.prog (callFunc K #[x,c]) w=.ok (.enter K #[x,c]) w) (p:Formula→Bool) (w:World) (hrow:Zal 2 Formula.cell w.heap.size w v l)
  (hp:∀ x∈l,∀ W,Below w.heap.size w W→Calls Tryz.prog K #[.agg #[.int .i64 x.kind,x.value],c] W fun e W'=>e=.returned (.bool (p x))∧Below W.heap.size W W') :
  Calls Tryz.prog 248 #[v,.func (.func K) #[] #[c]] w fun e w'=>e=.returned (.int .i64 (idxFrom p 0 l))∧Below w.heap.size w w':=by
 obtain ⟨a,cap,rfl,_,hrow⟩:=hrow
 go_enter Tryz.func248,Tryz.ntmps248
 go_wp2
 go_loopw [8] (fun i wr=>∃ (k:Nat),k≤l.length∧i=.int .i64 k∧Hid (idxFrom p 0 l=idxFrom p k (l.drop k))∧Below w.heap.size w wr) (fun i _=>l.length-(intOf i).toNat)
 case atStart=>exact ⟨0,Nat.zero_le _,rfl,by show idxFrom p 0 l=idxFrom p 0 (l.drop 0);rfl,Below.refl _ _⟩
 case round=>
  obtain ⟨k,hk,rfl,HC,B⟩:=hrel
  by_cases hlt:k<l.length
  ·obtain ⟨x,hx⟩:∃ x,l[k]?=some x:=⟨_,List.getElem?_eq_getElem hlt⟩
   rcases hrow with h | ⟨b,off,rfl,hbn,hcells⟩
   ·subst h;simp at hlt
   have HP:=hp x (List.mem_of_getElem? hx);obtain ⟨kd,vl⟩:=x;have c0:=(B.cell (p:=⟨b,off+k*2+0,none⟩) hbn).trans (hcells k _ hx 0 (by omega));have c1:=(B.cell (p:=⟨b,off+k*2+1,none⟩) hbn).trans (hcells k _ hx 1 (by omega));dsimp only [Formula.cell] at c0 c1;rw [Nat.add_zero] at c0;have HR:Hid (idxFrom p 0 l=if p ⟨kd,vl⟩ then (k:Int) else idxFrom p (k+1) (l.drop (k+1))):=by
    show idxFrom p 0 l=_
    rw [HC.out,drop_at hx];rfl
   have HP':Hid (∀ W,Below w.heap.size w W→Calls Tryz.prog K #[.agg #[.int .i64 kd,vl],c] W fun e W'=>e=.returned (.bool (p ⟨kd,vl⟩))∧Below W.heap.size W W'):=HP;clear HC hcells hx HP;generalize p ⟨kd,vl⟩=t at HR HP';go_wp2_with fail;refine Calls.mono (HP'.out _ B) ?_;rintro e w2 ⟨rfl,b2⟩;have B2:=B.trans (b2.mono B.size);clear b2 HP' c0 c1
   cases t
   ·go_wp2
    exact ⟨⟨k+1,by omega,by go_num,HR.out,B2⟩,by simp [intOf];omega⟩
   ·go_wp2
    go_ret;exact ⟨by rw [HR.out];rfl,B2⟩
  ·obtain rfl:k=l.length:=by omega
   have HZ:Hid (idxFrom p 0 l = -1):=by
    show idxFrom p 0 l = -1
    rw [HC.out,List.drop_length];rfl
   go_wp2;go_ret;exact ⟨by rw [HZ.out];rfl,B⟩
def formulaL:List Formula:=[⟨1,.func (.func 250) #[] #[]⟩,⟨2,.func (.func 251) #[] #[]⟩,⟨3,.func (.func 252) #[] #[]⟩,⟨4,.func (.func 253) #[] #[]⟩,⟨5,.func (.func 254) #[] #[]⟩]
theorem formula_row (w:World):Zal 2 Formula.cell (w.alloc (.cells formulaRow 273)).heap.size (w.alloc (.cells formulaRow 273)) (.slice (some ⟨w.heap.size,0,none⟩) 5 5) formulaL:=by
 refine ⟨_,5,rfl,by decide,.inr ⟨w.heap.size,0,rfl,by simp,fun j x hj i hi=>?_⟩⟩;have hj5:j<5:=(List.getElem?_eq_some_iff.1 hj).1;have h1:j=0∨j=1∨j=2∨j=3∨j=4:=by omega
 have h2:i=0∨i=1:=by omega
 rcases h1 with rfl | rfl | rfl | rfl | rfl <;> rcases h2 with rfl | rfl <;> (cases hj;simp [formulaRow,Formula.cell])
def formulaVal (k:Int):Value:=
 if k=1 then .func (.func 250) #[] #[] else if k=2 then .func (.func 251) #[] #[] else if k=3 then .func (.func 252) #[] #[] else if k=4 then .func (.func 253) #[] #[] else .func (.func 254) #[] #[]
theorem idx_formula (k:Int) (h1:1≤k) (h5:k≤5):idxFrom (fun f=>f.kind == k) 0 formulaL=k-1∧formulaL[(k-1).toNat]?=some ⟨k,formulaVal k⟩:=by
 have:k=1∨k=2∨k=3∨k=4∨k=5:=by omega
 rcases this with rfl | rfl | rfl | rfl | rfl <;> exact ⟨by decide,rfl⟩
theorem Zc (k:Int) (h1:1≤k) (h5:k≤5) (w:World):Calls Tryz.prog 246 #[.int .i64 k] w fun e w'=>e=.returned (.agg #[.int .i64 k,formulaVal k])∧Below w.heap.size w w':=by
 obtain ⟨i1,i2⟩:=idx_formula k h1 h5;obtain ⟨n,rfl⟩:∃ n:Nat,k=(n:Int)+1:=⟨(k-1).toNat,by omega⟩;rw [show (n:Int)+1-1=n from by omega] at i1 i2;rw [Int.toNat_natCast] at i2;have hn:n<5:=by omega
 clear h1 h5;obtain ⟨g,hg⟩:∃ g,formulaVal ((n:Int)+1)=.func (.func g) #[] #[]:=by
  unfold formulaVal
  repeat' split
  all_goals exact ⟨_,rfl⟩
 rw [hg] at i2 ⊢;clear hg
 go_enter Tryz.func246,Tryz.ntmps246
 go_wp2_with fail;refine (formulas_any _).mono ?_;rintro e w3 ⟨rfl,h3⟩;have R3:=formula_row ((w.alloc (.cells #[.int .i64 ((n:Int)+1)] 3)).alloc (.cells #[.int .i64 0,.nilFunc] 273));rw [← h3] at R3;have K3:w3.cell? ⟨w.heap.size,0,none⟩=some (.int .i64 ((n:Int)+1)):=by
  have:=((Za.new w 3 #[.int .i64 ((n:Int)+1)]).kept (World.grownBy_alloc _ (.cells #[.int .i64 0,.nilFunc] 273) none) (by simp)).kept (World.grownBy_alloc _ (.cells formulaRow 273) none) (by simp)
  rw [h3];exact this.cell 0
 have C3:Za w3 (w.heap.size+1) 273 #[.int .i64 0,.nilFunc]:=by
  have:=Za.new (w.alloc (.cells #[.int .i64 ((n:Int)+1)] 3)) 273 #[.int .i64 0,.nilFunc]
  rw [World.size_alloc] at this;rw [h3];exact this.kept (World.grownBy_alloc _ _ none) (by simp)
 have B3:Below w.heap.size w w3:=by rw [h3];exact (((Below.refl _ _).alloc (Nat.le_refl _) _).alloc (by simp) _).alloc (by simp;omega) _
 have Z3:w3.heap.size=w.heap.size+1+1+1:=by rw [h3];simp
 rw [World.size_alloc,World.size_alloc] at R3;clear h3;have HI:Hid (Calls Tryz.prog 248 #[.slice (some ⟨w.heap.size+1+1,0,none⟩) 5 5,.func (.func 249) #[] #[.pointer (some ⟨w.heap.size,0,none⟩)]] w3 fun e w'=>e=.returned (.int .i64 n)∧Below w3.heap.size w3 w'):=by
  have:=idxFormula_any formulaL _ 249 (.pointer (some ⟨w.heap.size,0,none⟩)) (fun w x=>enters_of Tryz.func249 (by kernel_rfl) rfl _ w) (fun f=>f.kind == (n:Int)+1) w3 R3
   (fun x _ W hb=>isKind_any w.heap.size ((n:Int)+1) x.kind x.value W (by have:=hb.size;omega) ((hb.cell (p:=⟨w.heap.size,0,none⟩) (by rw [Z3];exact Nat.lt_of_lt_of_le (Nat.lt_succ_self _) (Nat.le_add_right _ 2))).trans K3))
  rwa [i1] at this
 obtain ⟨aR,capR,eR,_,hR | ⟨bR,oR,eR2,hlt,hcR⟩⟩:=R3
 ·exact absurd hR (by decide)
 cases eR
 cases eR2
 have q0:=hcR n _ i2 0 (by omega);have q1:=hcR n _ i2 1 (by omega);dsimp only [Formula.cell] at q0 q1;clear i1 i2 hcR;go_wp2_with fail;refine HI.out.mono ?_;rintro e w4 ⟨rfl,b4⟩;have p0:w4.cell? ⟨w.heap.size+1+1,n*2,none⟩=some (.int .i64 ((n:Int)+1)):=by
  have:=(b4.cell (p:=⟨w.heap.size+1+1,0+n*2+0,none⟩) (by omega)).trans q0
  rw [Nat.zero_add] at this;exact this
 have p1:=(b4.cell (p:=⟨w.heap.size+1+1,0+n*2+1,none⟩) (by omega)).trans q1;have C4:=C3.below b4 (by omega);have B4:=B3.trans (b4.mono (by omega));rw [Nat.zero_add] at p1;have t0:=C4.cell 0;have t1:=C4.cell 1;have t2:=C4.frozen 0;have t3:=C4.frozen 1;clear q0 q1 C3 B3 b4 HI K3;simp at t0 t1;go_wp2
 (try simp only [Exit.inBlock,Exit.then])
 have hF:Za ((w4.setCell ⟨w.heap.size+1,0,none⟩ (.int .i64 ((n:Int)+1))).setCell ⟨w.heap.size+1,1,none⟩ (.func (.func g) #[] #[])) (w.heap.size+1) 273 #[.int .i64 ((n:Int)+1),.func (.func g) #[] #[]]:=(C4.set 0 _).set 1 _;refine bodyPost_ret (results_cell_row rfl _ _ _ _ _ _ _ rfl hF Tryz.underlying273 rfl (by kernel_rfl)) rfl ?_;exact ⟨rfl,(B4.setCell (by simp) _).setCell (by simp) _⟩
theorem idxExp_any (l:List Exp) (v:Value) (K:FuncId) (c:Value) (hK:∀ w x,Sem.run Tryz.prog (callFunc K #[x,c]) w=.ok (.enter K #[x,c]) w) (p:Exp→Bool) (w:World) (hrow:Zal 2 Exp.cell w.heap.size w v l)
  (hp:∀ x∈l,∀ W,Below w.heap.size w W→Calls Tryz.prog K #[.agg #[.string x.name,.int .i64 x.pos],c] W fun e W'=>e=.returned (.bool (p x))∧Below W.heap.size W W') :
  Calls Tryz.prog 173 #[v,.func (.func K) #[] #[c]] w fun e w'=>e=.returned (.int .i64 (idxFrom p 0 l))∧Below w.heap.size w w':=by
 obtain ⟨a,cap,rfl,_,hrow⟩:=hrow
 go_enter Tryz.func173,Tryz.ntmps173
 go_wp2
 go_loopw [8] (fun i wr=>∃ (k:Nat),k≤l.length∧i=.int .i64 k∧Hid (idxFrom p 0 l=idxFrom p k (l.drop k))∧Below w.heap.size w wr) (fun i _=>l.length-(intOf i).toNat)
 case atStart=>exact ⟨0,Nat.zero_le _,rfl,by show idxFrom p 0 l=idxFrom p 0 (l.drop 0);rfl,Below.refl _ _⟩
 case round=>
  obtain ⟨k,hk,rfl,HC,B⟩:=hrel
  by_cases hlt:k<l.length
  ·obtain ⟨x,hx⟩:∃ x,l[k]?=some x:=⟨_,List.getElem?_eq_getElem hlt⟩
   rcases hrow with h | ⟨b,off,rfl,hbn,hcells⟩
   ·subst h;simp at hlt
   have HP:=hp x (List.mem_of_getElem? hx);obtain ⟨nm,ps⟩:=x;have c0:=(B.cell (p:=⟨b,off+k*2+0,none⟩) hbn).trans (hcells k _ hx 0 (by omega));have c1:=(B.cell (p:=⟨b,off+k*2+1,none⟩) hbn).trans (hcells k _ hx 1 (by omega));dsimp only [Exp.cell] at c0 c1;rw [Nat.add_zero] at c0;have HR:Hid (idxFrom p 0 l=if p ⟨nm,ps⟩ then (k:Int) else idxFrom p (k+1) (l.drop (k+1))):=by
    show idxFrom p 0 l=_
    rw [HC.out,drop_at hx];rfl
   have HP':Hid (∀ W,Below w.heap.size w W→Calls Tryz.prog K #[.agg #[.string nm,.int .i64 ps],c] W fun e W'=>e=.returned (.bool (p ⟨nm,ps⟩))∧Below W.heap.size W W'):=HP;clear HC hcells hx HP;generalize p ⟨nm,ps⟩=t at HR HP';go_wp2_with fail;refine Calls.mono (HP'.out _ B) ?_;rintro e w2 ⟨rfl,b2⟩;have B2:=B.trans (b2.mono B.size);clear b2 HP' c0 c1
   cases t
   ·go_wp2
    exact ⟨⟨k+1,by omega,by go_num,HR.out,B2⟩,by simp [intOf];omega⟩
   ·go_wp2
    go_ret;exact ⟨by rw [HR.out];rfl,B2⟩
  ·obtain rfl:k=l.length:=by omega
   have HZ:Hid (idxFrom p 0 l = -1):=by
    show idxFrom p 0 l = -1
    rw [HC.out,List.drop_length];rfl
   go_wp2;go_ret;exact ⟨by rw [HZ.out];rfl,B⟩
theorem idxPlc_any (l:List PV) (v:Value) (K:FuncId) (c:Value) (hK:∀ w x,Sem.run Tryz.prog (callFunc K #[x,c]) w=.ok (.enter K #[x,c]) w) (p:PV→Bool) (w:World) (hrow:Zal 8 PV.cell w.heap.size w v l)
  (hp:∀ x∈l,∀ W,Below w.heap.size w W→Calls Tryz.prog K #[x.val,c] W fun e W'=>e=.returned (.bool (p x))∧Below W.heap.size W W') :
  Calls Tryz.prog 79 #[v,.func (.func K) #[] #[c]] w fun e w'=>e=.returned (.int .i64 (idxFrom p 0 l))∧Below w.heap.size w w':=by
 obtain ⟨a,cap,rfl,_,hrow⟩:=hrow
 go_enter Tryz.func79,Tryz.ntmps79
 go_wp2
 go_loopw [8] (fun i wr=>∃ (k:Nat),k≤l.length∧i=.int .i64 k∧Hid (idxFrom p 0 l=idxFrom p k (l.drop k))∧Below w.heap.size w wr) (fun i _=>l.length-(intOf i).toNat)
 case atStart=>exact ⟨0,Nat.zero_le _,rfl,by show idxFrom p 0 l=idxFrom p 0 (l.drop 0);rfl,Below.refl _ _⟩
 case round=>
  obtain ⟨k,hk,rfl,HC,B⟩:=hrel
  by_cases hlt:k<l.length
  ·obtain ⟨x,hx⟩:∃ x,l[k]?=some x:=⟨_,List.getElem?_eq_getElem hlt⟩
   rcases hrow with h | ⟨b,off,rfl,hbn,hcells⟩
   ·subst h;simp at hlt
   have c0:=(B.cell (p:=⟨b,off+k*8+0,none⟩) hbn).trans (hcells k _ hx 0 (by omega));have c1:=(B.cell (p:=⟨b,off+k*8+1,none⟩) hbn).trans (hcells k _ hx 1 (by omega));have c2:=(B.cell (p:=⟨b,off+k*8+2,none⟩) hbn).trans (hcells k _ hx 2 (by omega));have c3:=(B.cell (p:=⟨b,off+k*8+3,none⟩) hbn).trans (hcells k _ hx 3 (by omega));have c4:=(B.cell (p:=⟨b,off+k*8+4,none⟩) hbn).trans (hcells k _ hx 4 (by omega));have c5:=(B.cell (p:=⟨b,off+k*8+5,none⟩) hbn).trans (hcells k _ hx 5 (by omega));have c6:=(B.cell (p:=⟨b,off+k*8+6,none⟩) hbn).trans (hcells k _ hx 6 (by omega));have c7:=(B.cell (p:=⟨b,off+k*8+7,none⟩) hbn).trans (hcells k _ hx 7 (by omega));dsimp only [PV.cell] at c0 c1 c2 c3 c4 c5 c6 c7;rw [Nat.add_zero] at c0;have HR:Hid (idxFrom p 0 l=if p x then (k:Int) else idxFrom p (k+1) (l.drop (k+1))):=by
    show idxFrom p 0 l=_
    rw [HC.out,drop_at hx];rfl
   have HP':Hid (∀ W,Below w.heap.size w W→Calls Tryz.prog K #[.agg #[.string x.mod.name,.int .i64 x.mod.major,.int .i64 x.mod.minor,.string x.mod.text,x.ve,x.vi,x.vp,.int .i64 x.first],c] W fun e W'=>e=.returned (.bool (p x))∧Below W.heap.size W W'):=hp x (List.mem_of_getElem? hx);clear HC hcells hx;generalize p x=t at HR HP';go_wp2_with fail;refine Calls.mono (HP'.out _ B) ?_;rintro e w2 ⟨rfl,b2⟩;have B2:=B.trans (b2.mono B.size);clear b2 HP' c0 c1 c2 c3 c4 c5 c6 c7
   cases t
   ·go_wp2
    exact ⟨⟨k+1,by omega,by go_num,HR.out,B2⟩,by simp [intOf];omega⟩
   ·go_wp2
    go_ret;exact ⟨by rw [HR.out];rfl,B2⟩
  ·obtain rfl:k=l.length:=by omega
   have HZ:Hid (idxFrom p 0 l = -1):=by
    show idxFrom p 0 l = -1
    rw [HC.out,List.drop_length];rfl
   go_wp2;go_ret;exact ⟨by rw [HZ.out];rfl,B⟩
theorem idx_find {α:Type} (p:α→Bool):∀ (l:List α) (k:Nat),(l.find? p=none∧idxFrom p k l = -1)∨∃ j x,l.find? p=some x∧l[j]?=some x∧idxFrom p k l=((k+j:Nat):Int)
 | [],_=>.inl ⟨rfl,rfl⟩
 | y::l,k=>by
  unfold idxFrom
  cases hy:p y
  ·rcases idx_find p l (k+1) with ⟨h1,h2⟩ | ⟨j,x,h1,h2,h3⟩
   ·exact .inl ⟨by rw [List.find?_cons,hy];exact h1,by simpa using h2⟩
   ·refine .inr ⟨j+1,x,by rw [List.find?_cons,hy];exact h1,by simpa using h2,?_⟩
    rw [if_neg (by decide),h3]
    congr 1;omega
  ·exact .inr ⟨0,y,by rw [List.find?_cons,hy],rfl,by simp⟩
def optExp:Option Exp→Value
 | none=>.tuple #[.agg #[.string ⟨#[]⟩,.int .i64 0],.bool false]
 | some x=>.tuple #[.agg #[.string x.name,.int .i64 x.pos],.bool true]
def optPlc:Option PV→Value
 | none=>.tuple #[.agg #[.string ⟨#[]⟩,.int .i64 0,.int .i64 0,.string ⟨#[]⟩,.slice none 0 0,.slice none 0 0,.slice none 0 0,.int .i64 0],.bool false]
 | some x=>.tuple #[x.val,.bool true]
theorem firstExp_any (l:List Exp) (v:Value) (K:FuncId) (c:Value) (hK:∀ w x,Sem.run Tryz.prog (callFunc K #[x,c]) w=.ok (.enter K #[x,c]) w) (p:Exp→Bool) (w:World) (hrow:Zal 2 Exp.cell w.heap.size w v l)
  (hp:∀ x∈l,∀ W,Below w.heap.size w W→Calls Tryz.prog K #[.agg #[.string x.name,.int .i64 x.pos],c] W fun e W'=>e=.returned (.bool (p x))∧Below W.heap.size W W') :
  Calls Tryz.prog 140 #[v,.func (.func K) #[] #[c]] w fun e w'=>e=.returned (optExp (l.find? p))∧Below w.heap.size w w':=by
 have HI:Hid (∀ W,Below w.heap.size w W→Calls Tryz.prog 173 #[v,.func (.func K) #[] #[c]] W fun e w'=>e=.returned (.int .i64 (idxFrom p 0 l))∧Below W.heap.size W w'):=by
  intro W hb;exact idxExp_any l v K c hK p W ((hrow.below hb).more hb.size) (fun x hx W' hb'=>hp x hx W' (hb.trans (hb'.mono hb.size)))
 obtain ⟨a,cap,rfl,_,hrow⟩:=hrow
 rcases idx_find p l 0 with ⟨h1,h2⟩ | ⟨j,x,h1,h2,h3⟩
 ·rw [h1]
  rw [h2] at HI
  go_enter Tryz.func140,Tryz.ntmps140
  go_wp2_with fail;refine (HI.out _ ((Below.refl _ _).alloc (Nat.le_refl _) _)).mono ?_;rintro e w1 ⟨rfl,b1⟩;have C1:=(Za.new w 129 #[.string ⟨#[]⟩,.int .i64 0]).below b1 (by simp);have B1:Below w.heap.size w w1:=((Below.refl _ _).alloc (Nat.le_refl _) _).trans (b1.mono (by simp));have hz1:=C1.lt;have t0:=C1.cell 0;have t1:=C1.cell 1;have t2:=C1.frozen 0;have t3:=C1.frozen 1;simp at t0 t1;clear b1 HI hK hp;go_wp2
  (try simp only [Exit.inBlock,Exit.then])
  have hF:Za (((w1.setCell ⟨w.heap.size,0,none⟩ (.string ⟨#[]⟩)).setCell ⟨w.heap.size,1,none⟩ (.int .i64 0)).alloc (.cells #[.string ⟨#[]⟩,.int .i64 0] 129)) w.heap.size 129 #[.string ⟨#[]⟩,.int .i64 0]:=((C1.set 0 (.string ⟨#[]⟩)).set 1 (.int .i64 0)).kept (World.grownBy_alloc _ _ none) (by simp);refine bodyPost_ret (Zab rfl _ _ _ _ _ _ _ rfl hF Tryz.underlying129 rfl (by kernel_rfl)) rfl ?_;exact ⟨rfl,((B1.setCell (Nat.le_refl _) _).setCell (Nat.le_refl _) _).alloc (by simp;omega) _⟩
 ·rw [h1]
  rw [h3] at HI
  rcases hrow with h | ⟨b,off,rfl,hbn,hcells⟩
  ·subst h;simp at h2
  have hj:j<l.length:=(List.getElem?_eq_some_iff.1 h2).1;rw [Nat.zero_add] at HI;obtain ⟨nm,ps⟩:=x;have d0:=hcells j _ h2 0 (by omega);have d1:=hcells j _ h2 1 (by omega);dsimp only [Exp.cell] at d0 d1;rw [Nat.add_zero] at d0;clear hcells h1 h2 h3
  go_enter Tryz.func140,Tryz.ntmps140
  go_wp2_with fail;refine (HI.out _ ((Below.refl _ _).alloc (Nat.le_refl _) _)).mono ?_;rintro e w1 ⟨rfl,b1⟩;have C1:=(Za.new w 129 #[.string ⟨#[]⟩,.int .i64 0]).below b1 (by simp);have B1:Below w.heap.size w w1:=((Below.refl _ _).alloc (Nat.le_refl _) _).trans (b1.mono (by simp));have hz1:=C1.lt;have t0:=C1.cell 0;have t1:=C1.cell 1;have t2:=C1.frozen 0;have t3:=C1.frozen 1;simp at t0 t1;have e0:=(B1.cell (p:=⟨b,off+j*2,none⟩) hbn).trans d0;have e1:=(B1.cell (p:=⟨b,off+j*2+1,none⟩) hbn).trans d1;clear b1 HI hK hp d0 d1;go_wp2
  (try simp only [Exit.inBlock,Exit.then])
  have hF:Za ((w1.setCell ⟨w.heap.size,0,none⟩ (.string nm)).setCell ⟨w.heap.size,1,none⟩ (.int .i64 ps)) w.heap.size 129 #[.string nm,.int .i64 ps]:=(C1.set 0 (.string nm)).set 1 (.int .i64 ps);refine bodyPost_ret (Zab rfl _ _ _ _ _ _ _ rfl hF Tryz.underlying129 rfl (by kernel_rfl)) rfl ?_;exact ⟨rfl,(B1.setCell (Nat.le_refl _) _).setCell (Nat.le_refl _) _⟩
theorem firstPlc_any (l:List PV) (v:Value) (K:FuncId) (c:Value) (hK:∀ w x,Sem.run Tryz.prog (callFunc K #[x,c]) w=.ok (.enter K #[x,c]) w) (p:PV→Bool) (w:World) (hrow:Zax w.heap.size w v l)
  (hp:∀ x∈l,∀ W,Below w.heap.size w W→Calls Tryz.prog K #[x.val,c] W fun e W'=>e=.returned (.bool (p x))∧Below W.heap.size W W') :
  Calls Tryz.prog 170 #[v,.func (.func K) #[] #[c]] w fun e w'=>e=.returned (optPlc (l.find? p))∧Below w.heap.size w w':=by
 have HI:Hid (∀ W,Below w.heap.size w W→Calls Tryz.prog 79 #[v,.func (.func K) #[] #[c]] W fun e w'=>e=.returned (.int .i64 (idxFrom p 0 l))∧Below W.heap.size W w'):=by
  intro W hb;exact idxPlc_any l v K c hK p W ((hrow.1.below hb).more hb.size) (fun x hx W' hb'=>hp x hx W' (hb.trans (hb'.mono hb.size)))
 obtain ⟨⟨a,cap,rfl,_,hrow⟩,hat⟩:=hrow
 rcases idx_find p l 0 with ⟨h1,h2⟩ | ⟨j,x,h1,h2,h3⟩
 ·rw [h1]
  rw [h2] at HI
  go_enter Tryz.func170,Tryz.ntmps170
  go_wp2_with fail;refine (HI.out _ ((Below.refl _ _).alloc (Nat.le_refl _) _)).mono ?_;rintro e w1 ⟨rfl,b1⟩;have C1:=(Za.new w 57 #[.string ⟨#[]⟩,.int .i64 0,.int .i64 0,.string ⟨#[]⟩,.slice none 0 0,.slice none 0 0,.slice none 0 0,.int .i64 0]).below b1 (by simp);have B1:Below w.heap.size w w1:=((Below.refl _ _).alloc (Nat.le_refl _) _).trans (b1.mono (by simp));have hz1:=C1.lt;have t0:=C1.cell 0;have t1:=C1.cell 1;have t2:=C1.cell 2;have t3:=C1.cell 3;have t4:=C1.cell 4;have t5:=C1.cell 5;have t6:=C1.cell 6;have t7:=C1.cell 7;have f0:=C1.frozen 0;have f1:=C1.frozen 1;have f2:=C1.frozen 2;have f3:=C1.frozen 3;have f4:=C1.frozen 4;have f5:=C1.frozen 5;have f6:=C1.frozen 6;have f7:=C1.frozen 7;simp at t0 t1 t2 t3 t4 t5 t6 t7;clear b1 HI hK hp hat hrow;go_wp2
  (try simp only [Exit.inBlock,Exit.then])
  have hF:Za (((((((((w1.setCell ⟨w.heap.size,0,none⟩ (.string ⟨#[]⟩)).setCell ⟨w.heap.size,1,none⟩ (.int .i64 0)).setCell ⟨w.heap.size,2,none⟩ (.int .i64 0)).setCell ⟨w.heap.size,3,none⟩ (.string ⟨#[]⟩)).setCell ⟨w.heap.size,4,none⟩ (.slice none 0 0)).setCell ⟨w.heap.size,5,none⟩ (.slice none 0 0)).setCell ⟨w.heap.size,6,none⟩ (.slice none 0 0)).setCell ⟨w.heap.size,7,none⟩ (.int .i64 0)).alloc (.cells #[.string ⟨#[]⟩,.int .i64 0,.int .i64 0,.string ⟨#[]⟩,.slice none 0 0,.slice none 0 0,.slice none 0 0,.int .i64 0] 57)) w.heap.size 57 #[.string ⟨#[]⟩,.int .i64 0,.int .i64 0,.string ⟨#[]⟩,.slice none 0 0,.slice none 0 0,.slice none 0 0,.int .i64 0]:=Za.kept ((((((((C1.set 0 (.string ⟨#[]⟩)).set 1 (.int .i64 0)).set 2 (.int .i64 0)).set 3 (.string ⟨#[]⟩)).set 4 (.slice none 0 0)).set 5 (.slice none 0 0)).set 6 (.slice none 0 0)).set 7 (.int .i64 0)) (World.grownBy_alloc _ _ none) (by simp);refine bodyPost_ret (Zab rfl _ _ _ _ _ _ _ rfl hF Tryz.underlying57 rfl (by kernel_rfl)) rfl ?_;exact ⟨rfl,((((((((B1.setCell (Nat.le_refl _) _).setCell (Nat.le_refl _) _).setCell (Nat.le_refl _) _).setCell (Nat.le_refl _) _).setCell (Nat.le_refl _) _).setCell (Nat.le_refl _) _).setCell (Nat.le_refl _) _).setCell (Nat.le_refl _) _).alloc (by simp;omega) _⟩
 ·rw [h1]
  rw [h3] at HI
  rcases hrow with h | ⟨b,off,rfl,hbn,hcells⟩
  ·subst h;simp at h2
  have hj:j<l.length:=(List.getElem?_eq_some_iff.1 h2).1;rw [Nat.zero_add] at HI;obtain ⟨⟨pe,ke,e4,_⟩,⟨pi,ki,e5,_⟩,⟨pp,kp,e6,_⟩⟩:=hat x (List.mem_of_getElem? h2);obtain ⟨⟨N,ma,mi,T,es,is,ps⟩,ve,vi,vp,fi⟩:=x;dsimp only at e4 e5 e6;subst e4 e5 e6;have d0:=hcells j _ h2 0 (by omega);have d1:=hcells j _ h2 1 (by omega);have d2:=hcells j _ h2 2 (by omega);have d3:=hcells j _ h2 3 (by omega);have d4:=hcells j _ h2 4 (by omega);have d5:=hcells j _ h2 5 (by omega);have d6:=hcells j _ h2 6 (by omega);have d7:=hcells j _ h2 7 (by omega);dsimp only [PV.cell] at d0 d1 d2 d3 d4 d5 d6 d7;rw [Nat.add_zero] at d0;clear hcells h1 h2 h3 hat
  go_enter Tryz.func170,Tryz.ntmps170
  go_wp2_with fail;refine (HI.out _ ((Below.refl _ _).alloc (Nat.le_refl _) _)).mono ?_;rintro e w1 ⟨rfl,b1⟩;have C1:=(Za.new w 57 #[.string ⟨#[]⟩,.int .i64 0,.int .i64 0,.string ⟨#[]⟩,.slice none 0 0,.slice none 0 0,.slice none 0 0,.int .i64 0]).below b1 (by simp);have B1:Below w.heap.size w w1:=((Below.refl _ _).alloc (Nat.le_refl _) _).trans (b1.mono (by simp));have hz1:=C1.lt;have t0:=C1.cell 0;have t1:=C1.cell 1;have t2:=C1.cell 2;have t3:=C1.cell 3;have t4:=C1.cell 4;have t5:=C1.cell 5;have t6:=C1.cell 6;have t7:=C1.cell 7;have f0:=C1.frozen 0;have f1:=C1.frozen 1;have f2:=C1.frozen 2;have f3:=C1.frozen 3;have f4:=C1.frozen 4;have f5:=C1.frozen 5;have f6:=C1.frozen 6;have f7:=C1.frozen 7;simp at t0 t1 t2 t3 t4 t5 t6 t7;have g0:=(B1.cell (p:=⟨b,off+j*8,none⟩) hbn).trans d0;have g1:=(B1.cell (p:=⟨b,off+j*8+1,none⟩) hbn).trans d1;have g2:=(B1.cell (p:=⟨b,off+j*8+2,none⟩) hbn).trans d2;have g3:=(B1.cell (p:=⟨b,off+j*8+3,none⟩) hbn).trans d3;have g4:=(B1.cell (p:=⟨b,off+j*8+4,none⟩) hbn).trans d4;have g5:=(B1.cell (p:=⟨b,off+j*8+5,none⟩) hbn).trans d5;have g6:=(B1.cell (p:=⟨b,off+j*8+6,none⟩) hbn).trans d6;have g7:=(B1.cell (p:=⟨b,off+j*8+7,none⟩) hbn).trans d7;clear b1 HI hK hp d0 d1 d2 d3 d4 d5 d6 d7;go_wp2
  (try simp only [Exit.inBlock,Exit.then])
  have hF:Za ((((((((w1.setCell ⟨w.heap.size,0,none⟩ (.string N)).setCell ⟨w.heap.size,1,none⟩ (.int .i64 ma)).setCell ⟨w.heap.size,2,none⟩ (.int .i64 mi)).setCell ⟨w.heap.size,3,none⟩ (.string T)).setCell ⟨w.heap.size,4,none⟩ (.slice pe es.length ke)).setCell ⟨w.heap.size,5,none⟩ (.slice pi is.length ki)).setCell ⟨w.heap.size,6,none⟩ (.slice pp ps.length kp)).setCell ⟨w.heap.size,7,none⟩ (.int .i64 fi)) w.heap.size 57 #[.string N,.int .i64 ma,.int .i64 mi,.string T,.slice pe es.length ke,.slice pi is.length ki,.slice pp ps.length kp,.int .i64 fi]:=((((((((C1.set 0 (.string N)).set 1 (.int .i64 ma)).set 2 (.int .i64 mi)).set 3 (.string T)).set 4 (.slice pe es.length ke)).set 5 (.slice pi is.length ki)).set 6 (.slice pp ps.length kp)).set 7 (.int .i64 fi));refine bodyPost_ret (Zab rfl _ _ _ _ _ _ _ rfl hF Tryz.underlying57 rfl (by kernel_rfl)) rfl ?_;exact ⟨rfl,((((((((B1.setCell (Nat.le_refl _) _).setCell (Nat.le_refl _) _).setCell (Nat.le_refl _) _).setCell (Nat.le_refl _) _).setCell (Nat.le_refl _) _).setCell (Nat.le_refl _) _).setCell (Nat.le_refl _) _).setCell (Nat.le_refl _) _)⟩
end Go.Proofs.YtlpnfbpgnfappaaGreat
