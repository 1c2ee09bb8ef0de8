/- Texts that are laid together. -/
import Derived.Test.YtlpnfbpgnfappaaGreatProg
import Derived.Deep.RegionHeld3
import Derived.RangeFuncNested
import Derived.RangeFuncBound
import Derived.RangeFuncCalls
import Derived.RangeFuncLeaves
import Derived.RangeFuncBox
import Derived.Shelf.Abstract
import Derived.Shelf.RegionOpen
import Derived.WalkKit
import Derived.OwnWalkIn
import Derived.TacticsInMore
import Derived.LoopNIn
import Derived.LoopIn
import Derived.PlainAid
import Derived.Laws.BitsAllLaws
import Derived.Deep.QuietTactic
import Derived.BigQuiet
import Derived.WalkSmall
import Derived.WalkSpells
set_option maxHeartbeats 256000000
set_option maxRecDepth 100000

namespace Go.Proofs.YtlpnfbpgnfappaaGreat
section
variable {P : Program} {ops : Array Oper} {Q : Exit → Act → World → Prop} {md : Region.Mode}
def depsB (md:Region.Mode) (ops:Array Oper) (i:Nat):List Nat:=((ops[i]?).map fun o=>(o.after.toList.filter (Region.binds md)).map (·.on)).getD []
theorem deps_done {listed:Array Bool} {i:Nat} (h:i∈Region.ready md ops listed):∀ d∈depsB md ops i,listed.getD d false=true:=by
 obtain ⟨_,o,ho,hall⟩:=mem_ready.1 h;intro d hd;unfold depsB at hd;rw [ho] at hd;simp only [Option.map_some,Option.getD_some,List.mem_map,List.mem_filter] at hd;obtain ⟨e,⟨he,hb⟩,rfl⟩:=hd;exact hall e (by simpa using he) hb
def backB (md:Region.Mode) (ops:Array Oper):Bool:=(List.range ops.size).all fun i=>(depsB md ops i).all fun d=>decide (d<i)
theorem getD_in {listed:Array Bool} {k:Nat} (h:k<listed.size) (d e:Bool):listed.getD k d=listed.getD k e:=by
 simp [h]
theorem all_done {listed:Array Bool} (hs:listed.size=ops.size) (hb:backB md ops=true) (hr:Region.ready md ops listed=[]):∀ k,k<ops.size→listed.getD k false=true:=by
 intro k
 induction k using Nat.strongRecOn with
 | _ k ih=>
  intro hk
  by_cases hl:listed.getD k false=true
  ·exact hl
  ·exfalso
   have hin:k∈Region.ready md ops listed:=by
    refine mem_ready.2 ⟨?_,ops[k],Array.getElem?_eq_getElem hk,?_⟩
    ·rw [getD_in (by omega) true false]
     simpa using hl
    ·intro e he hbd
     have hlt:e.on<k:=by
      simp only [backB,List.all_eq_true,List.mem_range,decide_eq_true_eq] at hb;refine hb k hk e.on ?_;unfold depsB;rw [Array.getElem?_eq_getElem hk];simp only [Option.map_some,Option.getD_some,List.mem_map,List.mem_filter];exact ⟨e,⟨by simpa using he,hbd⟩,rfl⟩
     exact ih e.on hlt (by omega)
   rw [hr] at hin
   cases hin
theorem wpAny_inv (Inv:(Nat→Prop)→Act→World→Prop) (hb:backB md ops=true)
  (hstep:∀ i c a w,i<ops.size→¬ c i→(∀ d∈depsB md ops i,c d)→Inv c a w→wpOp P ops Q i (fun a w=>Inv (fun k=>k=i∨c k) a w) a w)
  (hend:∀ c a w,(∀ k,k<ops.size→c k)→Inv c a w→Q .normal a w) :
  ∀ (fuel:Nat) (listed:Array Bool) (a:Act) (w:World),listed.size=ops.size→listed.toList.count false≤fuel→Inv (fun k=>listed.getD k false=true) a w→wpAny P md ops Q fuel listed a w
 | 0,listed,a,w,hs,hf,hi=>by
  have hr:Region.ready md ops listed=[]:=by
   refine List.eq_nil_iff_forall_not_mem.2 fun i hin=>?_;obtain ⟨h0,o,ho,_⟩:=mem_ready.1 hin;have hlt:i<listed.size:=by rw [hs];exact (Array.getElem?_eq_some_iff.1 ho).1
   have hz:listed.toList.count false=0:=by omega
   refine (List.count_eq_zero.1 hz) ?_
   have:listed[i]=false:=by simpa [hlt] using h0
   rw [← this]
   simp
  exact ⟨hr,hend _ a w (all_done hs hb hr) hi⟩
 | fuel+1,listed,a,w,hs,hf,hi=>by
  refine ⟨fun hr=>hend _ a w (all_done hs hb hr) hi,fun i hin=>?_⟩;obtain ⟨h0,o,ho,_⟩:=mem_ready.1 hin;have hlt:i<listed.size:=by rw [hs];exact (Array.getElem?_eq_some_iff.1 ho).1
  refine wpOp_mono (fun a' w' h=>?_) (hstep i _ a w (by omega) (by rw [getD_in hlt false true,h0];decide) (deps_done hin) hi);have hset:(fun k=>k=i∨listed.getD k false=true)=fun k=>(listed.setIfInBounds i true).getD k false=true:=by
   funext k
   refine propext ⟨fun h=>?_,fun h=>?_⟩
   ·rcases h with rfl | h
    ·simp [hlt]
    ·exact getD_set_true h
   ·by_cases hki:k=i
    ·exact .inl hki
    ·rw [getD_set_ne false (Ne.symm hki)] at h
     exact .inr h
  rw [hset] at h;refine wpAny_inv Inv hb hstep hend fuel _ a' w' (by simpa using hs) ?_ h;have hv:listed[i]=false:=by simpa [hlt] using h0
  have hpos:0<listed.toList.count false:=List.count_pos_iff.2 (by rw [← hv];simp)
  have:=List.count_set (a:=true) (b:=false) (l:=listed.toList) (i:=i) (by simpa using hlt)
  have h1:(listed.toList[i]'(by simpa using hlt) == false)=true:=by simpa using hv
  rw [Array.toList_setIfInBounds,this,if_pos h1,if_neg (by decide)]
  omega
theorem wp_region_inv {id:Nat} {a:Act} {w:World} (hm:P.follows .mixedOrders=true) (Inv:(Nat→Prop)→Act→World→Prop) (hb:backB .any ops=true)
  (hstep:∀ i c a w,i<ops.size→¬ c i→(∀ d∈depsB .any ops i,c d)→Inv c a w→wpOp P ops Q i (fun a w=>Inv (fun k=>k=i∨c k) a w) a w)
  (hend:∀ c a w,(∀ k,k<ops.size→c k)→Inv c a w→Q .normal a w) (h0:Inv (fun _=>False) a w.drew):(Code.region id ops true).wp P Q a w:=by
 refine wp_region_any hm (wpAny_inv Inv hb hstep hend _ _ a _ (by simp) ?_ ?_)
 ·rw [Array.toList_replicate]
  exact Nat.le_trans List.count_le_length (by simp)
 ·have:(fun k=>(Array.replicate ops.size false).getD k false=true)=fun _=>False:=by
   funext k
   refine propext ⟨fun h=>?_,fun h=>h.elim⟩
   by_cases hk:k<ops.size
   ·simp [hk] at h
   ·simp [hk] at h
  rw [this];exact h0
end
end Go.Proofs.YtlpnfbpgnfappaaGreat

namespace Go.Proofs.YtlpnfbpgnfappaaGreat
open Go.RowKit Go.PlainAid
def getStep (s:ByteArray) (at':Nat) (n:Int) (k:Nat):Int:=bits BinOp.or IntKind.i64 n (wrap64 (wrap64 (bt s (at'+k))*2 ^ (8*k)))
def getFold (s:ByteArray) (at':Nat) (ks:List Nat):Int:=ks.foldl (getStep s at') 0
theorem getFold_snoc (s:ByteArray) (at':Nat) (ks:List Nat) (k:Nat):getFold s at' (ks++[k])=getStep s at' (getFold s at' ks) k:=by simp [getFold]
def getN (s:ByteArray) (at':Nat):Nat→Int
 | 0=>0
 | m+1=>getN s at' m+bt s (at'+m)*256 ^ m
theorem or_mul (a b i m:Nat) (hm:m=2 ^ i) (h:a<m):a ||| (b*m)=b*m+a:=by
 subst hm;rw [Nat.or_comm,← Nat.shiftLeft_eq,Nat.shiftLeft_add_eq_or_of_lt h]
theorem i64_or_nat (a b:Nat) (ha:a<4611686018427387904) (hb:b<4611686018427387904):bits .or .i64 (a:Int) (b:Int)=((a ||| b:Nat):Int):=by
 have hx:a ||| b<2 ^ 62:=Nat.or_lt_two_pow (by omega) (by omega)
 show IntKind.i64.wrap ((BitVec.ofInt 64 (a:Int) ||| BitVec.ofInt 64 (b:Int)).toNat:Int)=_
 rw [BitVec.toNat_or,ofInt_u64 a (by omega),ofInt_u64 b (by omega),i64_is];unfold wrap64
 omega
theorem or_step (n b:Int) (k:Nat) (hk:k≤3) (h0:0≤n) (h1:n<256 ^ k) (hb0:0≤b) (hb1:b≤255) :
  bits BinOp.or IntKind.i64 n (wrap64 (wrap64 b*2 ^ (8*k)))=n+b*256 ^ k:=by
 obtain ⟨n,rfl⟩:=Int.eq_ofNat_of_zero_le h0;obtain ⟨b,rfl⟩:=Int.eq_ofNat_of_zero_le hb0;have hw:wrap64 (b:Int)=b:=by unfold wrap64;omega
 rw [hw];have hk4:k=0∨k=1∨k=2∨k=3:=by omega
 rcases hk4 with rfl | rfl | rfl | rfl
 ·have e:wrap64 ((b:Int)*2 ^ (8*0))=((b*1:Nat):Int):=by unfold wrap64;omega
  rw [e,i64_or_nat n (b*1) (by omega) (by omega),or_mul n b 0 1 (by decide) (by omega)];omega
 ·have e:wrap64 ((b:Int)*2 ^ (8*1))=((b*256:Nat):Int):=by unfold wrap64;omega
  rw [e,i64_or_nat n (b*256) (by omega) (by omega),or_mul n b 8 256 (by decide) (by omega)];omega
 ·have e:wrap64 ((b:Int)*2 ^ (8*2))=((b*65536:Nat):Int):=by unfold wrap64;omega
  rw [e,i64_or_nat n (b*65536) (by omega) (by omega),or_mul n b 16 65536 (by decide) (by omega)];omega
 ·have e:wrap64 ((b:Int)*2 ^ (8*3))=((b*16777216:Nat):Int):=by unfold wrap64;omega
  rw [e,i64_or_nat n (b*16777216) (by omega) (by omega),or_mul n b 24 16777216 (by decide) (by omega)];omega
theorem getN_bd (s:ByteArray) (at':Nat):∀ m,0≤getN s at' m∧getN s at' m<256 ^ m
 | 0=>by simp [getN]
 | m+1=>by
  obtain ⟨a,b⟩:=getN_bd s at' m;have h0:=bt_nonneg s (at'+m);have h1:=bt_le s (at'+m);have hp:(0:Int)<256 ^ m:=Int.pow_pos (by omega);have m1:bt s (at'+m)*256 ^ m≤255*256 ^ m:=Int.mul_le_mul_of_nonneg_right h1 (by omega);have m0:0≤bt s (at'+m)*256 ^ m:=Int.mul_nonneg h0 (by omega);rw [getN,Int.pow_succ]
  omega
theorem getFold_range (s:ByteArray) (at':Nat):∀ m,m≤4→getFold s at' (List.range m)=getN s at' m
 | 0,_=>rfl
 | m+1,h=>by
  obtain ⟨a,b⟩:=getN_bd s at' m;rw [List.range_succ,getFold_snoc,getFold_range s at' m (by omega),getStep,or_step _ _ m (by omega) a b (bt_nonneg _ _) (bt_le _ _),getN]
def byteOf (n:Int) (k:Nat):UInt8:=UInt8.ofNat (n / 256 ^ k % 256).toNat
theorem byteOf_toNat (n:Int) (k:Nat):((byteOf n k).toNat:Int)=n / 256 ^ k % 256:=by
 have h0:=Int.emod_nonneg (n / 256 ^ k) (b:=256) (by omega);have h1:=Int.emod_lt_of_pos (n / 256 ^ k) (b:=256) (by omega);unfold byteOf;rw [UInt8.toNat_ofNat']
 omega
def putStep (at':Nat) (n:Int) (l:List UInt8) (k:Nat):List UInt8:=l.set (at'+k) (byteOf n k)
def Zcp (s:ByteArray) (at':Nat) (n:Int) (ks:List Nat):List UInt8:=ks.foldl (putStep at' n) s.data.toList
theorem putFold_snoc (s:ByteArray) (at':Nat) (n:Int) (ks:List Nat) (k:Nat):Zcp s at' n (ks++[k])=(Zcp s at' n ks).set (at'+k) (byteOf n k):=by simp [Zcp,putStep]
theorem putFold_length (s:ByteArray) (at':Nat) (n:Int) (ks:List Nat):(Zcp s at' n ks).length=s.size:=by
 have h:∀ (ks:List Nat) (l:List UInt8),(ks.foldl (putStep at' n) l).length=l.length:=by
  intro ks
  induction ks with
  | nil=>intro l;rfl
  | cons k ks ih=>intro l;rw [List.foldl_cons,ih,putStep,List.length_set]
 rw [Zcp,h];simp
def putS (s:ByteArray) (at' m:Nat) (n:Int):ByteArray:=⟨(Zcp s at' n (List.range m)).toArray⟩
theorem putS_size (s:ByteArray) (at' m:Nat) (n:Int):(putS s at' m n).size=s.size:=by
 show (Zcp s at' n (List.range m)).toArray.size=s.size
 rw [List.size_toArray];exact putFold_length s at' n (List.range m)
theorem bt_list (s:ByteArray) (i:Nat):bt s i=match s.data.toList[i]? with | some v=>(v.toNat:Int) | none=>0:=by
 unfold bt
 by_cases h:i<s.size
 ·rw [dif_pos h]
  have h':i<s.data.toList.length:=by simpa using h
  rw [List.getElem?_eq_getElem h']
  rfl
 ·rw [dif_neg h]
  have h':s.data.toList.length≤i:=by simpa using h
  rw [List.getElem?_eq_none h']
theorem ba_ext {s t:ByteArray} (hl:s.size=t.size) (h:∀ i,i<s.size→bt s i=bt t i):s=t:=by
 apply ByteArray.ext
 apply Array.ext hl
 intro i h1 h2;have e:=h i h1;unfold bt at e;rw [dif_pos (show i<s.size from h1),dif_pos (show i<t.size from h2)] at e
 apply UInt8.toNat_inj.1
 exact Int.ofNat_inj.1 e
theorem putFold_at (s:ByteArray) (a:Nat) (n:Int):∀ m i,a+m≤s.size→(Zcp s a n (List.range m))[i]?=if a≤i∧i<a+m then some (byteOf n (i-a)) else s.data.toList[i]?
 | 0,i,_=>by rw [if_neg (by omega)];rfl
 | m+1,i,h=>by
  have hlen:=putFold_length s a n (List.range m);rw [List.range_succ,putFold_snoc]
  by_cases e:a+m=i
  ·subst e
   rw [List.getElem?_set_self (by omega),if_pos (by omega),Nat.add_sub_cancel_left]
  ·rw [List.getElem?_set_ne e,putFold_at s a n m i (by omega)]
   by_cases c:a≤i∧i<a+m
   ·rw [if_pos c,if_pos (by omega)]
   ·rw [if_neg c,if_neg (by omega)]
theorem bt_put (s:ByteArray) (a m:Nat) (n:Int) (i:Nat) (h:a+m≤s.size):bt (putS s a m n) i=if a≤i∧i<a+m then n / 256 ^ (i-a) % 256 else bt s i:=by
 rw [bt_list];have e:(putS s a m n).data.toList=Zcp s a n (List.range m):=by simp [putS]
 rw [e,putFold_at s a n m i h]
 by_cases c:a≤i∧i<a+m
 ·rw [if_pos c,if_pos c];exact byteOf_toNat n (i-a)
 ·rw [if_neg c,if_neg c,bt_list]
theorem bt_put_in (s:ByteArray) (a m:Nat) (n:Int) (j:Nat) (h:a+m≤s.size) (hj:j<m):bt (putS s a m n) (a+j)=n / 256 ^ j % 256:=by
 rw [bt_put s a m n (a+j) h,if_pos (by omega),Nat.add_sub_cancel_left]
theorem four {m:Nat} (h1:1≤m) (h4:m≤4):m=1∨m=2∨m=3∨m=4:=by omega
theorem getN_1 (s:ByteArray) (a:Nat):getN s a 1=bt s a:=by simp [getN]
theorem getN_2 (s:ByteArray) (a:Nat):getN s a 2=bt s a+bt s (a+1)*256:=by simp [getN]
theorem same_bytes (n:Int) (m j:Nat) (h1:1≤m) (h4:m≤4) (hj:j<m):(n % 256 ^ m) / 256 ^ j % 256=n / 256 ^ j % 256∧(n % 256 ^ m-256 ^ m) / 256 ^ j % 256=n / 256 ^ j % 256:=by
 have hj4:j=0∨j=1∨j=2∨j=3:=by omega
 rcases four h1 h4 with rfl | rfl | rfl | rfl <;> rcases hj4 with rfl | rfl | rfl | rfl <;> first | omega | (constructor <;> omega)
structure Exp where
 name:ByteArray
 pos:Int
structure Imp where
 mod:ByteArray
 name:ByteArray
 major:Int
 minor:Int
structure Pat where
 kind:Int
 pos:Int
 sym:Int
 add:Int
structure Mod where
 name:ByteArray
 major:Int
 minor:Int
 text:ByteArray
 exps:List Exp
 imps:List Imp
 pats:List Pat
def betw (n l m:Int):Bool:=decide (l≤n) && decide (n≤m)
theorem ZaL {n l m:Int} (h1:l≤n) (h2:n≤m):betw n l m=true:=by simp [betw,h1,h2]
theorem Zar {n l m:Int} (h:n<l∨m<n):betw n l m=false:=by
 unfold betw
 rcases h with h | h
 ·rw [decide_eq_false (show ¬ l≤n by omega)];rfl
 ·rw [decide_eq_false (show ¬ n≤m by omega),Bool.and_false]
theorem Zcv {n l m:Int}:betw n l m=true↔l≤n∧n≤m:=by simp [betw]
theorem betw_not {n l m:Int} (h:betw n l m=false):n<l∨m<n:=by
 by_cases a:l≤n
 ·by_cases b:n≤m
  ·rw [ZaL a b] at h;cases h
  ·exact .inr (by omega)
 ·exact .inl (by omega)
def okc (c:Int):Bool:=betw c 97 122 || (betw c 48 57 || c == 95)
def okFrom (s:ByteArray) (k:Nat):Bool:=(List.range k).all fun i=>okc (bt s i)
def isNm (s:ByteArray):Bool:=betw s.size 1 10 && (betw (bt s 0) 97 122 && okFrom s s.size)
theorem okFrom_succ (s:ByteArray) (k:Nat):okFrom s (k+1)=(okFrom s k && okc (bt s k)):=by
 unfold okFrom;rw [List.range_succ,List.all_append];simp
theorem okFrom_false (s:ByteArray) (k n:Nat) (h:k<n) (hc:okc (bt s k)=false):okFrom s n=false:=by
 unfold okFrom;rw [List.all_eq_false];exact ⟨k,List.mem_range.2 h,by rw [hc];simp⟩
theorem isNm_size {s:ByteArray} (h:isNm s=true):1≤s.size∧s.size≤10:=by
 unfold isNm at h;rw [Bool.and_eq_true] at h
 have:=Zcv.1 h.1
 omega
theorem isNm_long {s:ByteArray} (h:betw s.size 1 10=false):isNm s=false:=by unfold isNm;rw [h];rfl
theorem isNm_first {s:ByteArray} (h:betw (bt s 0) 97 122=false):isNm s=false:=by unfold isNm;rw [h];simp
theorem isNm_other {s:ByteArray} (h:okFrom s s.size=false):isNm s=false:=by unfold isNm;rw [h];simp
theorem isNm_yes {s:ByteArray} (h:betw s.size 1 10=true) (h1:betw (bt s 0) 97 122=true) (h2:okFrom s s.size=true):isNm s=true:=by unfold isNm;rw [h,h1,h2];rfl
def Zcg (major minor:Int):Bool:=betw major 0 255 && betw minor 0 255
def ZbO (most:Int) (met:List ByteArray) (e:Exp):Int:=
 if isNm e.name=false then 1 else if (met.any fun x=>x == e.name)=true then 6 else if betw e.pos 0 (most-1)=false then 3 else 0
def Zay (most:Int):List ByteArray→List Exp→Int
 | _,[]=>0
 | met,e::l=>if ZbO most met e=0 then Zay most (met++[e.name]) l else ZbO most met e
def Zcl (met:List (ByteArray × ByteArray)) (i:Imp):Int:=
 if (isNm i.mod && isNm i.name)=false then 1 else if (met.any fun x=>x.1 == i.mod && x.2 == i.name)=true then 6 else if Zcg i.major i.minor=false then 3 else 0
def chkImps:List (ByteArray × ByteArray)→List Imp→Int
 | _,[]=>0
 | met,i::l=>if Zcl met i=0 then chkImps (met++[(i.mod,i.name)]) l else Zcl met i
def width (kind:Int):Int:=if kind=1∨kind=2 then 4 else if kind=3∨kind=4 then 2 else if kind=5 then 3 else 0
def Zcq (bytes imports ende:Int) (p:Pat):Int:=
 if width p.kind=0 then 7 else if (betw p.sym (-1) (imports-1) && betw p.add 0 65535)=false then 3 else if betw p.pos 0 (bytes-width p.kind)=false then 3 else if p.pos<ende then 4 else 0
def Zbk (bytes imports:Int):Int→List Pat→Int
 | _,[]=>0
 | ende,p::l=>if Zcq bytes imports ende p=0 then Zbk bytes imports (p.pos+width p.kind) l else Zcq bytes imports ende p
def kernelName:ByteArray:=⟨#[107,101,114,110,101,108]⟩
def Zac (m:Mod):Int:=
 if isNm m.name=false∨(m.name == kernelName)=true then 1
 else if Zcg m.major m.minor=false then 3
 else if 256<m.text.size∨6<m.exps.length∨6<m.imps.length∨12<m.pats.length then 2
 else if m.text.size=0∨m.text.size % 4≠0 then 1
 else if Zay m.text.size [] m.exps≠0 then Zay m.text.size [] m.exps
 else if chkImps [] m.imps≠0 then chkImps [] m.imps
 else Zbk m.text.size m.imps.length 0 m.pats
theorem Zaj (n l m:Int) (w:World) :
  Calls Tryz.prog 109 #[.int .i64 n,.int .i64 l,.int .i64 m] w fun e w'=>e=.returned (.bool (betw n l m))∧w'=w:=by
 by_cases h1:l≤n
 ·by_cases h2:n≤m
  ·rw [ZaL h1 h2]
   go_enter Tryz.func109,Tryz.ntmps109
   go_wp2;go_ret;exact ⟨rfl,rfl⟩
  ·rw [Zar (.inr (by omega))]
   have h3:decide (n≤m)=false:=decide_eq_false h2
   go_enter Tryz.func109,Tryz.ntmps109
   go_wp2;go_ret;exact ⟨rfl,rfl⟩
 ·rw [Zar (.inl (by omega))]
  have h3:decide (l≤n)=false:=decide_eq_false h1
  go_enter Tryz.func109,Tryz.ntmps109
  go_wp2;go_ret;exact ⟨rfl,rfl⟩
theorem isLetter_any (c:Int) (w:World):Calls Tryz.prog 161 #[.int .u8 c] w fun e w'=>e=.returned (.bool (betw c 97 122))∧w'=w:=by
 by_cases h1:97≤c
 ·by_cases h2:c≤122
  ·rw [ZaL h1 h2]
   go_enter Tryz.func161,Tryz.ntmps161
   go_wp2;go_ret;exact ⟨rfl,rfl⟩
  ·rw [Zar (.inr (by omega))]
   have h3:decide (c≤122)=false:=decide_eq_false h2
   go_enter Tryz.func161,Tryz.ntmps161
   go_wp2;go_ret;exact ⟨rfl,rfl⟩
 ·rw [Zar (.inl (by omega))]
  have h3:decide (97≤c)=false:=decide_eq_false h1
  go_enter Tryz.func161,Tryz.ntmps161
  go_wp2;go_ret;exact ⟨rfl,rfl⟩
theorem isDigit_any (c:Int) (w:World):Calls Tryz.prog 162 #[.int .u8 c] w fun e w'=>e=.returned (.bool (betw c 48 57))∧w'=w:=by
 by_cases h1:48≤c
 ·by_cases h2:c≤57
  ·rw [ZaL h1 h2]
   go_enter Tryz.func162,Tryz.ntmps162
   go_wp2;go_ret;exact ⟨rfl,rfl⟩
  ·rw [Zar (.inr (by omega))]
   have h3:decide (c≤57)=false:=decide_eq_false h2
   go_enter Tryz.func162,Tryz.ntmps162
   go_wp2;go_ret;exact ⟨rfl,rfl⟩
 ·rw [Zar (.inl (by omega))]
  have h3:decide (48≤c)=false:=decide_eq_false h1
  go_enter Tryz.func162,Tryz.ntmps162
  go_wp2;go_ret;exact ⟨rfl,rfl⟩
theorem ZbU (a b:Int) (w:World):Calls Tryz.prog 116 #[.int .i64 a,.int .i64 b] w fun e w'=>e=.returned (.bool (Zcg a b))∧w'=w:=by
 have key:Zcg a b=(decide (0≤a) && decide (a≤255) && decide (0≤b) && decide (b≤255)):=by unfold Zcg betw;simp [Bool.and_assoc]
 rw [key];clear key
 by_cases h1:0≤a
 ·by_cases h2:a≤255
  ·by_cases h3:0≤b
   ·by_cases h4:b≤255
    ·rw [decide_eq_true h1,decide_eq_true h2,decide_eq_true h3,decide_eq_true h4]
     go_enter Tryz.func116,Tryz.ntmps116
     go_wp2;go_ret;exact ⟨rfl,rfl⟩
    ·have h5:decide (b≤255)=false:=decide_eq_false h4
     rw [decide_eq_true h1,decide_eq_true h2,decide_eq_true h3,h5]
     go_enter Tryz.func116,Tryz.ntmps116
     go_wp2;go_ret;exact ⟨rfl,rfl⟩
   ·have h5:decide (0≤b)=false:=decide_eq_false h3
    rw [decide_eq_true h1,decide_eq_true h2,h5]
    go_enter Tryz.func116,Tryz.ntmps116
    go_wp2;go_ret;exact ⟨rfl,rfl⟩
  ·have h5:decide (a≤255)=false:=decide_eq_false h2
   rw [decide_eq_true h1,h5]
   go_enter Tryz.func116,Tryz.ntmps116
   go_wp2;go_ret;exact ⟨rfl,rfl⟩
 ·have h5:decide (0≤a)=false:=decide_eq_false h1
  rw [h5]
  go_enter Tryz.func116,Tryz.ntmps116
  go_wp2;go_ret;exact ⟨rfl,rfl⟩
theorem width_cases (k:Int):(k=1∧width k=4)∨(k=2∧width k=4)∨(k=3∧width k=2)∨(k=4∧width k=2)∨(k=5∧width k=3)∨(k≠1∧k≠2∧k≠3∧k≠4∧k≠5∧width k=0):=by
 by_cases h1:k=1
 ·subst h1;exact .inl ⟨rfl,by decide⟩
 by_cases h2:k=2
 ·subst h2;exact .inr (.inl ⟨rfl,by decide⟩)
 by_cases h3:k=3
 ·subst h3;exact .inr (.inr (.inl ⟨rfl,by decide⟩))
 by_cases h4:k=4
 ·subst h4;exact .inr (.inr (.inr (.inl ⟨rfl,by decide⟩)))
 by_cases h5:k=5
 ·subst h5;exact .inr (.inr (.inr (.inr (.inl ⟨rfl,by decide⟩))))
 ·refine .inr (.inr (.inr (.inr (.inr ⟨h1,h2,h3,h4,h5,?_⟩))))
  unfold width;rw [if_neg (by omega),if_neg (by omega),if_neg h5]
theorem patched_any (k:Int) (w:World):Calls Tryz.prog 163 #[.int .i64 k] w fun e w'=>e=.returned (.int .i64 (width k))∧w'=w:=by
 rcases width_cases k with ⟨rfl,h⟩ | ⟨rfl,h⟩ | ⟨rfl,h⟩ | ⟨rfl,h⟩ | ⟨rfl,h⟩ | ⟨h1,h2,h3,h4,h5,h⟩
 all_goals rw [h];clear h
 case inr.inr.inr.inr.inr=>
  have e1:(k == 1)=false:=beq_eq_false_iff_ne.2 h1;have e2:(k == 2)=false:=beq_eq_false_iff_ne.2 h2;have e3:(k == 3)=false:=beq_eq_false_iff_ne.2 h3;have e4:(k == 4)=false:=beq_eq_false_iff_ne.2 h4;have e5:(k == 5)=false:=beq_eq_false_iff_ne.2 h5;clear h1 h2 h3 h4 h5
  go_enter Tryz.func163,Tryz.ntmps163
  go_wp2;go_ret;exact ⟨rfl,rfl⟩
 all_goals
  go_enter Tryz.func163,Tryz.ntmps163
  go_wp2;go_ret;exact ⟨rfl,rfl⟩
theorem ZbI (k:Int) (w:World):Calls Tryz.prog 112 #[.int .i64 k] w fun e w'=>e=.returned (.int .i64 (width k))∧w'=w:=by
 rcases width_cases k with ⟨rfl,h⟩ | ⟨rfl,h⟩ | ⟨rfl,h⟩ | ⟨rfl,h⟩ | ⟨rfl,h⟩ | ⟨h1,h2,h3,h4,h5,h⟩
 all_goals rw [h];clear h
 case inr.inr.inr.inr.inr=>
  have e1:(k == 1)=false:=beq_eq_false_iff_ne.2 h1;have e2:(k == 2)=false:=beq_eq_false_iff_ne.2 h2;have e3:(k == 3)=false:=beq_eq_false_iff_ne.2 h3;have e4:(k == 4)=false:=beq_eq_false_iff_ne.2 h4;have e5:(k == 5)=false:=beq_eq_false_iff_ne.2 h5;clear h1 h2 h3 h4 h5
  go_enter Tryz.func112,Tryz.ntmps112
  go_wp2;go_ret;exact ⟨rfl,rfl⟩
 all_goals
  go_enter Tryz.func112,Tryz.ntmps112
  go_wp2;go_ret;exact ⟨rfl,rfl⟩
theorem isName_any (s:ByteArray) (w:World) (hs:s.size≤9223372036854775807):Calls Tryz.prog 115 #[.string s] w fun e w'=>e=.returned (.bool (isNm s))∧w'=w:=by
 by_cases h1:(1:Int)≤s.size
 ·by_cases h2:(s.size:Int)≤10
  ·have hbs:=get_bt s
   have hbt:=ZaL h1 h2
   by_cases h3:betw (bt s 0) 97 122=true
   ·go_enter Tryz.func115,Tryz.ntmps115
    go_wp2_with (go_at_call 161;refine (isLetter_any _ _).mono ?_;rintro e w ⟨rfl,rfl⟩)
    go_loop [21] (fun i=>∃ k:Nat,k≤s.size∧i=.int .i64 k∧Hid (okFrom s k=true)) (fun i=>s.size-(intOf i).toNat)
    case atStart=>exact ⟨0,Nat.zero_le _,rfl,by show okFrom s 0=true;rfl⟩
    case round=>
     obtain ⟨k,hk,rfl,HO⟩:=hrel
     by_cases hlt:k<s.size
     ·by_cases hc:okc (bt s k)=true
      ·have HO2:Hid (okFrom s (k+1)=true):=by show okFrom s (k+1)=true;rw [okFrom_succ,HO.out,hc];rfl
       have parts:betw (bt s k) 97 122=true∨(betw (bt s k) 97 122=false∧(betw (bt s k) 48 57=true∨(betw (bt s k) 48 57=false∧(bt s k != 95)=false))):=by
        unfold okc at hc
        cases ha:betw (bt s k) 97 122
        ·cases hb:betw (bt s k) 48 57
         ·rw [ha,hb] at hc
          refine .inr ⟨rfl,.inr ⟨rfl,?_⟩⟩
          simpa using hc
         ·exact .inr ⟨rfl,.inl rfl⟩
        ·exact .inl rfl
       clear hc
       rcases parts with p1 | ⟨p1,p2 | ⟨p2,p3⟩⟩
       all_goals
        go_wp2_with (first
         | (go_at_call 161;refine (isLetter_any _ _).mono ?_;rintro e w ⟨rfl,rfl⟩)
         | (go_at_call 162;refine (isDigit_any _ _).mono ?_;rintro e w ⟨rfl,rfl⟩))
        go_round
        case rel=>exact ⟨k+1,by omega,by go_num,HO2⟩
        case measure=>simp [intOf];omega
      ·have hcf:okc (bt s k)=false:=by simpa using hc
       have HF:Hid (isNm s=false):=isNm_other (okFrom_false s k s.size hlt hcf);have p1:betw (bt s k) 97 122=false:=by unfold okc at hcf;rw [Bool.or_eq_false_iff] at hcf;exact hcf.1
       have p2:betw (bt s k) 48 57=false:=by unfold okc at hcf;rw [Bool.or_eq_false_iff,Bool.or_eq_false_iff] at hcf;exact hcf.2.1
       have p3:(bt s k != 95)=true:=by unfold okc at hcf;rw [Bool.or_eq_false_iff,Bool.or_eq_false_iff] at hcf;simpa using hcf.2.2
       clear hc hcf;go_wp2_with (first
        | (go_at_call 161;refine (isLetter_any _ _).mono ?_;rintro e w ⟨rfl,rfl⟩)
        | (go_at_call 162;refine (isDigit_any _ _).mono ?_;rintro e w ⟨rfl,rfl⟩))
       go_ret;exact ⟨by rw [HF.out];rfl,rfl⟩
     ·obtain rfl:k=s.size:=by omega
      have HF:Hid (isNm s=true):=isNm_yes hbt h3 HO.out;go_wp2;go_ret;exact ⟨by rw [HF.out];rfl,rfl⟩
   ·have h3f:betw (bt s 0) 97 122=false:=by simpa using h3
    rw [isNm_first h3f];clear h3
    go_enter Tryz.func115,Tryz.ntmps115
    go_wp2_with (go_at_call 161;refine (isLetter_any _ _).mono ?_;rintro e w ⟨rfl,rfl⟩);go_ret;exact ⟨rfl,rfl⟩
  ·rw [isNm_long (Zar (.inr (by omega)))]
   have hd:decide ((s.size:Int)<1)=false:=decide_eq_false (by omega);have h2':(10:Int)<s.size:=by omega
   go_enter Tryz.func115,Tryz.ntmps115
   go_wp2;go_ret;exact ⟨rfl,rfl⟩
 ·rw [isNm_long (Zar (.inl (by omega)))]
  have h1':(s.size:Int)<1:=by omega
  go_enter Tryz.func115,Tryz.ntmps115
  go_wp2;go_ret;exact ⟨rfl,rfl⟩
theorem wrap_bt (s:ByteArray) (k:Nat):wrap64 (bt s k)=bt s k:=by
 have a:=bt_nonneg s k;have b:=bt_le s k;unfold wrap64;omega
theorem okc_parts {c:Int} (hc:okc c=true):betw c 97 122=true∨(betw c 97 122=false∧(betw c 48 57=true∨(betw c 48 57=false∧(c != 95)=false))):=by
 unfold okc at hc
 cases ha:betw c 97 122
 ·cases hb:betw c 48 57
  ·rw [ha,hb] at hc
   refine .inr ⟨rfl,.inr ⟨rfl,?_⟩⟩
   simpa using hc
  ·exact .inr ⟨rfl,.inl rfl⟩
 ·exact .inl rfl
theorem okc_none {c:Int} (hcf:okc c=false):betw c 97 122=false∧betw c 48 57=false∧(c != 95)=true:=by
 unfold okc at hcf;rw [Bool.or_eq_false_iff,Bool.or_eq_false_iff] at hcf;exact ⟨hcf.1,hcf.2.1,by simpa using hcf.2.2⟩
theorem Zbc (s:ByteArray) (w:World) (hs:s.size≤9223372036854775807):Calls Tryz.prog 108 #[.string s] w fun e w'=>e=.returned (.bool (isNm s))∧w'=w:=by
 by_cases h0:betw s.size 1 10=true
 ·obtain ⟨h1,h2⟩:=Zcv.1 h0
  have hbs:=get_bt s;have w0:=wrap_bt s 0
  by_cases h3:betw (bt s 0) 97 122=true
  ·go_enter Tryz.func108,Tryz.ntmps108
   go_wp2_with (go_at_call 109;refine (Zaj _ _ _ _).mono ?_;rintro e w ⟨rfl,rfl⟩)
   go_loop [3] (fun i=>∃ k:Nat,k≤s.size∧i=.int .i64 k∧Hid (okFrom s k=true)) (fun i=>s.size-(intOf i).toNat)
   case atStart=>exact ⟨0,Nat.zero_le _,rfl,by show okFrom s 0=true;rfl⟩
   case round=>
    obtain ⟨k,hk,rfl,HO⟩:=hrel;have wk:=wrap_bt s k
    by_cases hlt:k<s.size
    ·by_cases hc:okc (bt s k)=true
     ·have HO2:Hid (okFrom s (k+1)=true):=by show okFrom s (k+1)=true;rw [okFrom_succ,HO.out,hc];rfl
      have parts:=okc_parts hc;clear hc
      rcases parts with p1 | ⟨p1,p2 | ⟨p2,p3⟩⟩
      all_goals
       go_wp2_with (go_at_call 109;refine (Zaj _ _ _ _).mono ?_;rintro e w ⟨rfl,rfl⟩)
       go_round
       case rel=>exact ⟨k+1,by omega,by go_num,HO2⟩
       case measure=>simp [intOf];omega
     ·have hcf:okc (bt s k)=false:=by simpa using hc
      have HF:Hid (isNm s=false):=isNm_other (okFrom_false s k s.size hlt hcf);obtain ⟨p1,p2,p3⟩:=okc_none hcf;clear hc hcf;go_wp2_with (go_at_call 109;refine (Zaj _ _ _ _).mono ?_;rintro e w ⟨rfl,rfl⟩);go_ret;exact ⟨by rw [HF.out];rfl,rfl⟩
    ·obtain rfl:k=s.size:=by omega
     have HF:Hid (isNm s=true):=isNm_yes h0 h3 HO.out;go_wp2;go_ret;exact ⟨by rw [HF.out];rfl,rfl⟩
  ·have h3f:betw (bt s 0) 97 122=false:=by simpa using h3
   rw [isNm_first h3f];clear h3
   go_enter Tryz.func108,Tryz.ntmps108
   go_wp2_with (go_at_call 109;refine (Zaj _ _ _ _).mono ?_;rintro e w ⟨rfl,rfl⟩);go_ret;exact ⟨rfl,rfl⟩
 ·have h0f:betw s.size 1 10=false:=by simpa using h0
  rw [isNm_long h0f];clear h0
  go_enter Tryz.func108,Tryz.ntmps108
  go_wp2_with (go_at_call 109;refine (Zaj _ _ _ _).mono ?_;rintro e w ⟨rfl,rfl⟩);go_ret;exact ⟨rfl,rfl⟩
def Zbv (i:Imp):Int:=if (isNm i.mod && isNm i.name)=false then 1 else if Zcg i.major i.minor=false then 3 else 0
def Imp.fits (i:Imp):Prop:=i.mod.size≤9223372036854775807∧i.name.size≤9223372036854775807
theorem checkImport_any (i:Imp) (w:World) (hi:i.fits):Calls Tryz.prog 111 #[.agg #[.string i.mod,.string i.name,.int .i64 i.major,.int .i64 i.minor]] w fun e w'=>e=.returned (.int .i64 (Zbv i))∧Below w.heap.size w w':=by
 obtain ⟨m,n,a,b⟩:=i;obtain ⟨z1,z2⟩:=hi;dsimp only at z1 z2 ⊢;have key:(isNm m=false∧Zbv ⟨m,n,a,b⟩=1)∨(isNm m=true∧isNm n=false∧Zbv ⟨m,n,a,b⟩=1)∨(isNm m=true∧isNm n=true∧betw a 0 255=false∧Zbv ⟨m,n,a,b⟩=3)∨
   (isNm m=true∧isNm n=true∧betw a 0 255=true∧betw b 0 255=false∧Zbv ⟨m,n,a,b⟩=3)∨(isNm m=true∧isNm n=true∧betw a 0 255=true∧betw b 0 255=true∧Zbv ⟨m,n,a,b⟩=0):=by
  cases hm:isNm m
  ·exact .inl ⟨rfl,by simp [Zbv,hm]⟩
  cases hn:isNm n
  ·exact .inr (.inl ⟨rfl,rfl,by simp [Zbv,hn]⟩)
  cases ha:betw a 0 255
  ·exact .inr (.inr (.inl ⟨rfl,rfl,rfl,by simp [Zbv,Zcg,hm,hn,ha]⟩))
  cases hb:betw b 0 255
  ·exact .inr (.inr (.inr (.inl ⟨rfl,rfl,rfl,rfl,by simp [Zbv,Zcg,hm,hn,hb]⟩)))
  ·exact .inr (.inr (.inr (.inr ⟨rfl,rfl,rfl,rfl,by simp [Zbv,Zcg,hm,hn,ha,hb]⟩)))
 generalize Zbv ⟨m,n,a,b⟩=R at key ⊢
 rcases key with ⟨hm,rfl⟩ | ⟨hm,hn,rfl⟩ | ⟨hm,hn,ha,rfl⟩ | ⟨hm,hn,ha,hb,rfl⟩ | ⟨hm,hn,ha,hb,rfl⟩
 all_goals
  go_enter Tryz.func111,Tryz.ntmps111
  go_wp2_with (first
   | (go_at_call 108;refine (Zbc _ _ (by assumption)).mono ?_;rintro e w' ⟨rfl,rfl⟩)
   | (go_at_call 109;refine (Zaj _ _ _ _).mono ?_;rintro e w' ⟨rfl,rfl⟩))
  go_ret;exact ⟨rfl,(Below.refl _ _).alloc (Nat.le_refl _) _⟩
end Go.Proofs.YtlpnfbpgnfappaaGreat
