/- Texts that are laid together. -/
import Derived.Shelf.SlSortCmp.SmallK
import Derived.Ground.SlsfProg
import Derived.Test.YtlpnfbpgnfappaaGreatProg
import Derived.Test.YtlpnfbpgnfappaaGreatMrgG
import Derived.Lib.Bytealg
import Derived.Test.YtlpnfbpgnfappaaGreatMrgE
import Derived.Test.YtlpnfbpgnfappaaGreatMrgF
import Derived.Lib.Repeat
import Derived.Shelf.Strings.Repeat
import Derived.Ground.NamesProg
import Derived.Test.YtlpnfbpgnfappaaGreatMrgC
import Derived.Lib.QuietBelow
set_option maxHeartbeats 256000000
set_option maxRecDepth 100000

namespace Go.Proofs.YtlpnfbpgnfappaaGreat
open Go.Shelf
def sortFL_ren:Go.Shelf.Ren:=⟨fun | 6=>147 | 15=>175 | 14=>174 | 28=>198 | 29=>199 | 20=>190 | 21=>191 | 22=>192 | 23=>193 | 24=>194 | 25=>195 | 26=>196 | 27=>197 | 46=>215 | 47=>216 | 48=>217 | 49=>218 | 50=>219 | 57=>235 | n=>n,fun | 22=>126 | 24=>31 | 25=>177 | 3=>3 | 39=>204 | 0=>0 | 53=>224 | 55=>226 | 4=>4 | 46=>218 | 45=>217 | 50=>172 | 5=>5 | 9=>9 | 66=>245 | 70=>249 | 76=>260 | 77=>261 | n=>n,fun | n=>n⟩
theorem sortFL:Go.Proofs.SlLaysF0.n6 Tryz.prog sortFL_ren:={
 mixed:=by kernel_rfl
 f6:=⟨Tryz.f147.name,by decide,Tryz.func147.trans (congrArg some (by kernel_rfl))⟩
 f14:=⟨Tryz.f174.name,by decide,Tryz.func174.trans (congrArg some (by kernel_rfl))⟩
 f15:=Tryz.func175.trans (congrArg some (by kernel_rfl))
 f20:=⟨Tryz.f190.name,by decide,Tryz.func190.trans (congrArg some (by kernel_rfl))⟩
 f21:=⟨Tryz.f191.name,by decide,Tryz.func191.trans (congrArg some (by kernel_rfl))⟩
 f22:=⟨Tryz.f192.name,by decide,Tryz.func192.trans (congrArg some (by kernel_rfl))⟩
 f23:=⟨Tryz.f193.name,by decide,Tryz.func193.trans (congrArg some (by kernel_rfl))⟩
 f24:=⟨Tryz.f194.name,by decide,Tryz.func194.trans (congrArg some (by kernel_rfl))⟩
 f25:=⟨Tryz.f195.name,by decide,Tryz.func195.trans (congrArg some (by kernel_rfl))⟩
 f26:=⟨Tryz.f196.name,by decide,Tryz.func196.trans (congrArg some (by kernel_rfl))⟩
 f27:=⟨Tryz.f197.name,by decide,Tryz.func197.trans (congrArg some (by kernel_rfl))⟩
 f28:=Tryz.func198.trans (congrArg some (by kernel_rfl))
 f29:=Tryz.func199.trans (congrArg some (by kernel_rfl))
 f46:=⟨Tryz.f215.name,by decide,Tryz.func215.trans (congrArg some (by kernel_rfl))⟩
 f47:=Tryz.func216.trans (congrArg some (by kernel_rfl))
 f48:=Tryz.func217.trans (congrArg some (by kernel_rfl))
 f49:=⟨Tryz.f218.name,by decide,Tryz.func218.trans (congrArg some (by kernel_rfl))⟩
 f50:=⟨Tryz.f219.name,by decide,Tryz.func219.trans (congrArg some (by kernel_rfl))⟩
 f57:=⟨Tryz.f235.name,by decide,Tryz.func235.trans (congrArg some (by kernel_rfl))⟩
 t0:=Tryz.underlying0
 a0:=Tryz.isAgg0
 z0:=Tryz.sizeOf0
 v0:=Tryz.zeroValue0
 t3:=Tryz.underlying3
 a3:=Tryz.isAgg3
 z3:=Tryz.sizeOf3
 v3:=Tryz.zeroValue3
 t4:=Tryz.underlying4
 a4:=Tryz.isAgg4
 z4:=Tryz.sizeOf4
 v4:=Tryz.zeroValue4
 t5:=Tryz.underlying5
 a5:=Tryz.isAgg5
 z5:=Tryz.sizeOf5
 v5:=Tryz.zeroValue5
 t9:=Tryz.underlying9
 a9:=Tryz.isAgg9
 z9:=Tryz.sizeOf9
 v9:=Tryz.zeroValue9
 t22:=Tryz.underlying126
 a22:=Tryz.isAgg126
 z22:=Tryz.sizeOf126
 v22:=Tryz.zeroValue126
 t25:=Tryz.underlying177
 a25:=Tryz.isAgg177
 z25:=Tryz.sizeOf177
 v25:=Tryz.zeroValue177
 t39:=Tryz.underlying204
 a39:=Tryz.isAgg204
 z39:=Tryz.sizeOf204
 v39:=Tryz.zeroValue204
 t45:=Tryz.underlying217
 a45:=Tryz.isAgg217
 z45:=Tryz.sizeOf217
 v45:=Tryz.zeroValue217
 t46:=Tryz.underlying218
 a46:=Tryz.isAgg218
 z46:=Tryz.sizeOf218
 v46:=Tryz.zeroValue218
 t50:=Tryz.underlying172
 a50:=Tryz.isAgg172
 z50:=Tryz.sizeOf172
 v50:=Tryz.zeroValue172
 t53:=Tryz.underlying224
 a53:=Tryz.isAgg224
 z53:=Tryz.sizeOf224
 v53:=Tryz.zeroValue224
 t55:=Tryz.underlying226
 a55:=Tryz.isAgg226
 z55:=Tryz.sizeOf226
 v55:=Tryz.zeroValue226
 t66:=Tryz.underlying245
 a66:=Tryz.isAgg245
 z66:=Tryz.sizeOf245
 v66:=Tryz.zeroValue245
 t70:=Tryz.underlying249
 a70:=Tryz.isAgg249
 z70:=Tryz.sizeOf249
 v70:=Tryz.zeroValue249
 t76:=Tryz.underlying260
 a76:=Tryz.isAgg260
 z76:=Tryz.sizeOf260
 v76:=Tryz.zeroValue260
 t77:=Tryz.underlying261
 a77:=Tryz.isAgg261
 z77:=Tryz.sizeOf261
 v77:=Tryz.zeroValue261 }
end Go.Proofs.YtlpnfbpgnfappaaGreat
namespace Go.Proofs.YtlpnfbpgnfappaaGreat
open Go.RowKit Go.PlainAid
open Go.Sort (grow alloc_eq_grow grow_grow putRow putRowK mapBlock)
theorem cmpB_neg:∀ a b:List UInt8,Lib.compareBytes a b<0↔a<b
 | [],[]=>by simp [Lib.compareBytes]
 | [],_::_=>by simp [Lib.compareBytes]
 | _::_,[]=>by simp [Lib.compareBytes]
 | x::a,y::b=>by
  unfold Lib.compareBytes;rw [List.cons_lt_cons_iff]
  by_cases h:x<y
  ·rw [if_pos h]
   exact ⟨fun _=>.inl h,fun _=>by decide⟩
  ·rw [if_neg h]
   by_cases g:y<x
   ·rw [if_pos g]
    constructor
    ·intro h1;exact absurd h1 (by decide)
    ·rintro (h1 | ⟨rfl,_⟩)
     ·exact absurd h1 h
     ·exact absurd g h
   ·rw [if_neg g,cmpB_neg a b]
    have e:x=y:=UInt8.le_antisymm (UInt8.not_lt.1 g) (UInt8.not_lt.1 h)
    constructor
    ·exact fun h1=>.inr ⟨e,h1⟩
    ·rintro (h1 | ⟨_,h1⟩)
     ·exact absurd h1 h
     ·exact h1
theorem compareString_any (a b:ByteArray) (w:World) :
  Calls Tryz.prog 176 #[.string a,.string b] w fun e w'=>e=.returned (.int .i64 (Lib.compareBytes a.data.toList b.data.toList))∧w'=w:=by
 go_enter Tryz.func176,Tryz.ntmps176
 go_wp2;rw [run_callFunc_extern Tryz.func200 (by kernel_rfl) (by kernel_rfl) (by kernel_rfl) (e:=Extern.BytealgCompare.compare) (by kernel_rfl),Lib.run_compareString];simp only [Result.andThen];rw [Oper.upon_value];go_wp2;go_ret;exact ⟨rfl,rfl⟩
theorem compare_any (a b:ByteArray) (w:World) :
  Calls Tryz.prog 149 #[.string a,.string b] w fun e w'=>e=.returned (.int .i64 (Lib.compareBytes a.data.toList b.data.toList))∧w'=w:=by
 have HC:=compareString_any a b w;generalize Lib.compareBytes a.data.toList b.data.toList=r at *
 go_enter Tryz.func149,Tryz.ntmps149
 go_wp2_with fail;refine HC.mono ?_;rintro e w2 ⟨rfl,rfl⟩;clear HC;go_wp2;go_ret;exact ⟨rfl,rfl⟩
theorem bitsLen_any (n:Nat) (W:World) (h:n≤12):Calls Tryz.prog 175 #[.int .u64 n] W fun e w'=>(∃ l:Int,e=.returned (.int .i64 l))∧w'=W:=by
 have hn:n=0∨n=1∨n=2∨n=3∨n=4∨n=5∨n=6∨n=7∨n=8∨n=9∨n=10∨n=11∨n=12:=by omega
 rcases hn with rfl | rfl | rfl | rfl | rfl | rfl | rfl | rfl | rfl | rfl | rfl | rfl | rfl
 all_goals
  go_enter Tryz.func175,Tryz.ntmps175
  go_wp2;go_ret;exact ⟨⟨_,rfl⟩,rfl⟩
def slV:Value→Value
 | .slice a n c=>.slice a n c
 | _=>.slice none 0 0
theorem slV_form (v:Value):∃ a n c,slV v=.slice a n c:=by
 cases v <;> exact ⟨_,_,_,rfl⟩
def modE (x:PV):List Value:=[.string x.mod.name,.int .i64 x.mod.major,.int .i64 x.mod.minor,.string x.mod.text,slV x.ve,slV x.vi,slV x.vp]
theorem modE_one (x:PV):∀ v∈modE x,v.oneCell'=true:=by
 intro v hv;unfold modE at hv;obtain ⟨a,n,c,h1⟩:=slV_form x.ve;obtain ⟨a2,n2,c2,h2⟩:=slV_form x.vi;obtain ⟨a3,n3,c3,h3⟩:=slV_form x.vp;rw [h1,h2,h3] at hv;simp at hv
 rcases hv with rfl | rfl | rfl | rfl | rfl | rfl | rfl <;> rfl
theorem modE_at {n₀:Nat} {W:World} {x:PV} (h:ZbH n₀ W x) (i:Nat) (hi:i<7):(modE x)[i]?=some (PV.cell x i):=by
 obtain ⟨⟨pe,ke,e4,_⟩,⟨pi,ki,e5,_⟩,⟨pp,kp,e6,_⟩⟩:=h
 have:i=0∨i=1∨i=2∨i=3∨i=4∨i=5∨i=6:=by omega
 unfold modE;rw [e4,e5,e6]
 rcases this with rfl | rfl | rfl | rfl | rfl | rfl | rfl <;> first | rfl | exact congrArg some e4.symm | exact congrArg some e5.symm | exact congrArg some e6.symm
theorem rising1_any (x y:PV) (W:World):Calls Tryz.prog 148 #[.agg (modE x).toArray,.agg (modE y).toArray] W fun e w'=>e=.returned (.int .i64 (Lib.compareBytes x.mod.name.data.toList y.mod.name.data.toList))∧∃ q os',w'=grow (W.drewN q) os':=by
 obtain ⟨a1,n1,c1,h1⟩:=slV_form x.ve;obtain ⟨a2,n2,c2,h2⟩:=slV_form x.vi;obtain ⟨a3,n3,c3,h3⟩:=slV_form x.vp;obtain ⟨a4,n4,c4,h4⟩:=slV_form y.ve;obtain ⟨a5,n5,c5,h5⟩:=slV_form y.vi;obtain ⟨a6,n6,c6,h6⟩:=slV_form y.vp;unfold modE;rw [h1,h2,h3,h4,h5,h6];clear h1 h2 h3 h4 h5 h6;obtain ⟨⟨N,ma,mi,T,es,is,ps⟩,ve,vi,vp,fi⟩:=x;obtain ⟨⟨N',ma',mi',T',es',is',ps'⟩,ve',vi',vp',fi'⟩:=y;dsimp only;have HC:Hid (∀ W,Calls Tryz.prog 149 #[.string N,.string N'] W fun e w'=>e=.returned (.int .i64 (Lib.compareBytes N.data.toList N'.data.toList))∧w'=W):=fun W=>compare_any N N' W;generalize Lib.compareBytes N.data.toList N'.data.toList=r at *
 go_enter Tryz.func148,Tryz.ntmps148
 go_wp2_with fail;refine (HC.out _).mono ?_;rintro e w2 ⟨rfl,rfl⟩;clear HC;go_wp2;go_ret;exact ⟨rfl,0,_,by rw [alloc_eq_grow,alloc_eq_grow,grow_grow];rfl⟩
theorem cmp_swo:Go.Sort.SWO (ltOf fun x y:PV=>Lib.compareBytes x.mod.name.data.toList y.mod.name.data.toList):=by
 have h:∀ x y:PV,ltOf (fun x y:PV=>Lib.compareBytes x.mod.name.data.toList y.mod.name.data.toList) x y=true↔x.mod.name.data.toList<y.mod.name.data.toList:=fun x y=>by
  unfold ltOf;rw [decide_eq_true_iff,cmpB_neg]
 have hf:∀ x y:PV,ltOf (fun x y:PV=>Lib.compareBytes x.mod.name.data.toList y.mod.name.data.toList) x y=false↔¬ x.mod.name.data.toList<y.mod.name.data.toList:=fun x y=>by
  rw [← h,Bool.not_eq_true]
 refine ⟨fun x=>(hf x x).2 (List.lt_irrefl _),fun x y z h1 h2=>(h x z).2 (List.lt_trans ((h x y).1 h1) ((h y z).1 h2)),fun x y z h1 h2=>(hf x z).2 ?_⟩;exact List.not_lt.2 (List.le_trans (List.not_lt.1 ((hf y z).1 h2)) (List.not_lt.1 ((hf x y).1 h1)))
theorem below_sortWorld {α:Type} [Inhabited α] (enc:α→List Value) (k:Nat) (w:World) (blk off m:Nat) (d:Array α) (os:Array Obj) (hb:blk<w.heap.size):Below blk w (sortWorldK enc k w blk off m d os):=by
 unfold sortWorldK putRowK putRow mapBlock Go.Sort.ahead grow;refine ⟨rfl,rfl,rfl,by simp,fun i hi=>?_⟩;dsimp only;rw [Array.getElem?_append_left (by rw [Array.size_modify];omega),Array.getElem?_modify,if_neg (by omega)]
end Go.Proofs.YtlpnfbpgnfappaaGreat
namespace Go.Proofs.YtlpnfbpgnfappaaGreat
open Go.RowKit Go.PlainAid
theorem insNone_any (p:Option Addr) (cap:Nat) (fv:Value) (w:World) :
  Calls Tryz.prog 190 #[.slice p 0 cap,.int .i64 0,.int .i64 0,fv] w fun e w'=>e=.returned (.tuple #[])∧w'=w:=by
 go_enter Tryz.func190,Tryz.ntmps190
 go_wp2;refine wp_loop_rounds 1 ?_;rw [rounds_succ];go_wp2
 go_end0
 exact ⟨rfl,rfl⟩
theorem pdqNone_any (p:Option Addr) (cap:Nat) (lim:Int) (fv:Value) (w:World) :
  Calls Tryz.prog 174 #[.slice p 0 cap,.int .i64 0,.int .i64 0,.int .i64 lim,fv] w fun e w'=>e=.returned (.tuple #[])∧w'=w:=by
 have hi:=fun W=>insNone_any p cap fv W
 go_enter Tryz.func174,Tryz.ntmps174
 go_wp2;refine wp_loop_rounds 1 ?_;rw [rounds_succ];go_wp2_with (go_at_call 190;refine (hi _).mono ?_;rintro e w' ⟨rfl,rfl⟩)
 (try simp only [Exit.inBlock,Exit.then]);refine bodyPost_ret (results_none rfl _ _ _) rfl ?_
 exact ⟨rfl,rfl⟩
theorem sortNone_any (p:Option Addr) (cap:Nat) (fv:Value) (w:World) :
  Calls Tryz.prog 147 #[.slice p 0 cap,fv] w fun e w'=>e=.returned (.tuple #[])∧w'=w:=by
 have hi:=fun lim W=>pdqNone_any p cap lim fv W;have hl:=fun W=>bitsLen_any 0 W (by omega)
 go_enter Tryz.func147,Tryz.ntmps147
 go_wp2_with (first | (go_at_call 175;refine (hl _).mono ?_;rintro e w' ⟨⟨q,rfl⟩,rfl⟩) | (go_at_call 174;refine (hi _ _).mono ?_;rintro e w' ⟨rfl,rfl⟩))
 go_end0
 exact ⟨rfl,rfl⟩
def pvZero:PV:=⟨⟨⟨#[]⟩,0,0,⟨#[]⟩,[],[],[]⟩,.slice none 0 0,.slice none 0 0,.slice none 0 0,0⟩
def UpName (a b:PV):Prop:=¬ b.mod.name.data.toList<a.mod.name.data.toList
theorem sortMods_any (l:List PV) (g cap:Nat) (w:World) (h8:l.length≤8) (hg:g<w.heap.size)
  (hc:∀ (j:Nat) (x:PV),l[j]?=some x→∀ i,i<7→w.cell? ⟨g,0+j*7+i,none⟩=(modE x)[i]?∧w.frozen? ⟨g,0+j*7+i,none⟩=false) :
  Calls Tryz.prog 147 #[.slice (some ⟨g,0,none⟩) l.length cap,.func (.func 148) #[] #[]] w fun e w'=>e=.returned (.tuple #[])∧∃ rs:List PV,rs.Perm l∧rs.Pairwise UpName∧Below g w w'∧∀ (j:Nat) (x:PV),rs[j]?=some x→∀ i,i<7→w'.cell? ⟨g,0+j*7+i,none⟩=(modE x)[i]?:=by
 have inh:Inhabited PV:=⟨pvZero⟩;have hl7:∀ x:PV,(modE x).length=7:=fun _=>rfl;have at_:∀ (x:PV) (i:Nat),i<7→(modE x)[i]?=some (modE x)[i]!:=fun x i hi=>by
  rw [List.getElem?_eq_getElem (by rw [hl7];exact hi),List.getElem!_eq_getElem?_getD,List.getElem?_eq_getElem (by rw [hl7];exact hi)]
  rfl
 have arr:∀ (a:Array PV) (j:Nat),j<a.size→a.toList[j]?=some a[j]!:=fun a j hj=>by
  rw [getElem!_pos a j hj,List.getElem?_eq_getElem (by simpa using hj)]
  simp
 have hH:Go.Sort.HoldsK modE 7 w g 0 l.toArray:=by
  intro t ht;rw [Go.Sort.size_flatK] at ht;rw [Go.Sort.get_flatK _ _ _ _ ht];have hs:l.toArray.size=l.length:=by simp
  have hq:t / 7<l.length:=by rw [hs] at ht;omega
  have hx:=arr l.toArray (t / 7) (by rw [hs];exact hq);rw [List.toList_toArray] at hx;have h1:=hc (t / 7) _ hx (t % 7) (by omega);rw [show 0+t / 7*7+t % 7=0+t by omega,at_ _ _ (by omega)] at h1;exact h1
 have hcon:=AnyQ.slices_SortFunc_small_sorted sortFL 7 Tryz.isAgg31 Tryz.sizeOf31 modE hl7 modE_one (fun x y=>Lib.compareBytes x.mod.name.data.toList y.mod.name.data.toList) 148 #[] cmp_swo g 0 cap l.toArray w (enters_of Tryz.func148 (by kernel_rfl) rfl) (fun _ _ _ _ x y=>rising1_any x y _) hH hg (by simp;omega) (fun n W hn=>bitsLen_any n W hn);refine Calls.mono hcon ?_;rintro e w' ⟨rfl,d',n,os,hp,hs,rfl⟩;have hsz:d'.size=l.length:=by rw [hp.1];simp
 have hperm:d'.toList.Perm l:=by
  have h1:=hp.2.2;have e1:l.toArray.size=d'.size:=by rw [hsz];simp
  rw [Array.extract_size,e1,Array.extract_size,List.toList_toArray] at h1;exact h1
 refine ⟨rfl,d'.toList,hperm,?_,below_sortWorld _ _ _ _ _ _ _ _ hg,?_⟩
 ·rw [List.pairwise_iff_getElem]
  intro i j hi hj hij;have h1:=hs i j (Nat.zero_le _) hij (by simp at hj ⊢;omega);have hi':i<d'.size:=by simpa using hi
  have hj':j<d'.size:=by simpa using hj
  rw [getElem!_pos d' i hi',getElem!_pos d' j hj'] at h1;unfold ltOf at h1;rw [decide_eq_false_iff_not,cmpB_neg] at h1;simp only [UpName,Array.getElem_toList];exact h1
 ·intro j x hx i hi
  have hj:j<d'.size:=by
   have:=(List.getElem?_eq_some_iff.1 hx).1
   simpa using this
  have hx2:=arr d' j hj;rw [hx] at hx2;injection hx2 with hx2;subst hx2;rw [at_ _ _ hi];exact (Go.Sort.HoldsK.cell (holdsK_sortWorldK_c modE 7 w g 0 l.toArray d' n os hH hg (by rw [hsz];simp)) hj hi).1
theorem infoMod:(Tryz.prog.info? 31).map (fun i=>(i.zero,i.size,i.bytes))=some (some (.agg #[.string ⟨#[]⟩,.int .i64 0,.int .i64 0,.string ⟨#[]⟩,.slice none 0 0,.slice none 0 0,.slice none 0 0]),7,120):=by kernel_rfl
theorem infoMod_parts:∃ i,Tryz.prog.info? 31=some i∧i.zero=some (.agg #[.string ⟨#[]⟩,.int .i64 0,.int .i64 0,.string ⟨#[]⟩,.slice none 0 0,.slice none 0 0,.slice none 0 0])∧i.size=7∧i.bytes=120:=by
 have h:=infoMod
 cases hi:Tryz.prog.info? 31 with
 | none=>rw [hi] at h;cases h
 | some i=>
  rw [hi] at h;simp at h;exact ⟨i,rfl,h.1,h.2.1,h.2.2⟩
theorem addr_add (g j:Nat):(⟨g,0,none⟩:Addr).add j=⟨g,j,none⟩:=by unfold Addr.add;split <;> simp_all
theorem rising_any (l:List PV) (v:Value) (w:World) (hrow:Zax w.heap.size w v l) (h8:l.length≤8) :
  Calls Tryz.prog 90 #[v] w fun e w'=>(∃ r rs,e=.returned r∧Zal 7 PV.cell w'.heap.size w' r rs∧rs.Perm l∧rs.Pairwise UpName)∧Below w.heap.size w w':=by
 have hat:=hrow.2;obtain ⟨⟨a,cap,rfl,hmax,hrow⟩,_⟩:=hrow;obtain ⟨ii,hii,hz0,hz1,hz2⟩:=infoMod_parts
 go_enter Tryz.func90,Tryz.ntmps90
 go_wp2_with fail
 go_loopw [3,8] (fun f i wr=>∃ (k:Nat),k≤l.length∧i=.int .i64 k∧wr.ownsRow w.heap.size 31 7 f k ((l.take k).flatMap modE)∧Below w.heap.size w wr) (fun _ i _=>l.length-(intOf i).toNat)
 case atStart=>exact ⟨0,Nat.zero_le _,rfl,⟨rfl,.inl ⟨rfl,rfl⟩⟩,Below.refl _ _⟩
 case round=>
  obtain ⟨k,hk,rfl,hown,B⟩:=hrel
  by_cases hlt:k<l.length
  ·obtain ⟨av,kv,rfl⟩:=Zae hown
   obtain ⟨x,hx⟩:∃ x,l[k]?=some x:=⟨_,List.getElem?_eq_getElem hlt⟩
   rcases hrow with h | ⟨b,off,rfl,hbn,hcells⟩
   ·subst h;simp at hlt
   have htk:l.take (k+1)=l.take k++[x]:=by rw [List.take_add_one,hx];rfl
   have HROW:Hid (∀ (W:World) (u:Value),W.ownsRow w.heap.size 31 7 u (k+1) ((l.take k).flatMap modE++modE x)→W.ownsRow w.heap.size 31 7 u (k+1) ((l.take (k+1)).flatMap modE)):=fun W u h=>by
    rw [htk,List.flatMap_append]
    simpa using h
   obtain ⟨⟨pe,ke,e4,_⟩,⟨pi,ki,e5,_⟩,⟨pp,kp,e6,_⟩⟩:=hat x (List.mem_of_getElem? hx);obtain ⟨⟨N,ma,mi,T,es,is,ps⟩,ve,vi,vp,fi⟩:=x;dsimp only at e4 e5 e6;subst e4 e5 e6;have c0:=(B.cell (p:=⟨b,off+k*8+0,none⟩) hbn).trans (hcells k _ hx 0 (by omega));have c1:=(B.cell (p:=⟨b,off+k*8+1,none⟩) hbn).trans (hcells k _ hx 1 (by omega));have c2:=(B.cell (p:=⟨b,off+k*8+2,none⟩) hbn).trans (hcells k _ hx 2 (by omega));have c3:=(B.cell (p:=⟨b,off+k*8+3,none⟩) hbn).trans (hcells k _ hx 3 (by omega));have c4:=(B.cell (p:=⟨b,off+k*8+4,none⟩) hbn).trans (hcells k _ hx 4 (by omega));have c5:=(B.cell (p:=⟨b,off+k*8+5,none⟩) hbn).trans (hcells k _ hx 5 (by omega));have c6:=(B.cell (p:=⟨b,off+k*8+6,none⟩) hbn).trans (hcells k _ hx 6 (by omega));have c7:=(B.cell (p:=⟨b,off+k*8+7,none⟩) hbn).trans (hcells k _ hx 7 (by omega));dsimp only [PV.cell] at c0 c1 c2 c3 c4 c5 c6 c7;rw [Nat.add_zero] at c0;dsimp only [modE,slV] at HROW;clear hcells hx hat htk;generalize es.length=le at *;generalize is.length=li at *;generalize ps.length=lp at *;generalize (l.take k).flatMap modE=acc at *;have O7:=hown.alloc (.cells #[.string N,.int .i64 ma,.int .i64 mi,.string T,.slice pe le ke,.slice pi li ki,.slice pp lp kp,.int .i64 fi] 57);have B7:=B.alloc B.size (.cells #[.string N,.int .i64 ma,.int .i64 mi,.string T,.slice pe le ke,.slice pi li ki,.slice pp lp kp,.int .i64 fi] 57);have HB7:Hid (Below w.heap.size w (wr.alloc (.cells #[.string N,.int .i64 ma,.int .i64 mi,.string T,.slice pe le ke,.slice pi li ki,.slice pp lp kp,.int .i64 fi] 57))):=B7;have HSZ:Hid (w.heap.size≤wr.heap.size):=B.size;clear hown B7;go_wp2_with (at_builtin;refine wpList_append_lies _ rfl _ _ _ rfl w.heap.size 31 ii _ 7 120 Tryz.underlying126 hii hz0 hz1 hz2 rfl (by omega) (.slice av k kv) k acc rfl (O7.alloc _) ⟨wr.heap.size+1,0,none⟩ 1 1 [.string N,.int .i64 ma,.int .i64 mi,.string T,.slice pe le ke,.slice pi li ki,.slice pp lp kp] rfl rfl (World.news_of_block (cs:=#[.string N,.int .i64 ma,.int .i64 mi,.string T,.slice pe le ke,.slice pi li ki,.slice pp lp kp]) (t:=31) (fr:=(0,0)) (by have:=Za.new (wr.alloc (.cells #[.string N,.int .i64 ma,.int .i64 mi,.string T,.slice pe le ke,.slice pi li ki,.slice pp lp kp,.int .i64 fi] 57)) 31 #[.string N,.int .i64 ma,.int .i64 mi,.string T,.slice pe le ke,.slice pi li ki,.slice pp lp kp];rw [World.size_alloc] at this;exact this)) (by simp [Value.oneCell']) (by omega) (by unfold maxLen;omega) (by omega) (by have:=HSZ.out;simp;omega) (wr.heap.size+2) (by simp) ?_;intro g gc w8 hown8 hgrow hat hltg);have BB:=HB7.out.alloc HB7.out.size (.cells #[.string N,.int .i64 ma,.int .i64 mi,.string T,.slice pe le ke,.slice pi li ki,.slice pp lp kp] 31);exact ⟨⟨k+1,by omega,by go_num,HROW.out _ _ hown8,BB.grown hgrow BB.size (fun j hj=>ZaP O7 j hj)⟩,by simp [intOf];omega⟩
  ·obtain rfl:k=l.length:=by omega
   rw [List.take_length] at hown;have HO:=hown;clear hrow
   rcases hown.2 with ⟨rfl,hn⟩ | ⟨g,cap',cur,rfl,hg,hb,hcap,hm,hsz,htk⟩
   ·obtain rfl:l=[]:=List.length_eq_zero_iff.1 hn
    clear hown HO hat;go_wp2_with (go_at_call 147;refine (sortNone_any _ _ _ _).mono ?_;rintro e w' ⟨rfl,rfl⟩);go_ret;exact ⟨⟨_,[],rfl,⟨none,0,rfl,by simp,.inl rfl⟩,.nil,.nil⟩,B⟩
   ·have hgl:g<wr.heap.size:=(Array.getElem?_eq_some_iff.1 hb).1
    have HS:Hid (Calls Tryz.prog 147 #[.slice (some ⟨g,0,none⟩) l.length cap',.func (.func 148) #[] #[]] wr fun e w'=>e=.returned (.tuple #[])∧∃ rs:List PV,rs.Perm l∧rs.Pairwise UpName∧Below g wr w'∧∀ (j:Nat) (x:PV),rs[j]?=some x→∀ i,i<7→w'.cell? ⟨g,0+j*7+i,none⟩=(modE x)[i]?):=by
     refine sortMods_any l g cap' wr h8 hgl (fun j x hj i hi=>⟨?_,Za.frozen (t:=31) (cs:=cur) hb _⟩);have h1:=flat_at (C:=modE) (sz:=7) (fun _=>rfl) l j x i hj hi;have h2:(modE x)[i]?=some (modE x)[i]!:=by
      rw [List.getElem?_eq_getElem (by show i<7;exact hi),List.getElem!_eq_getElem?_getD,List.getElem?_eq_getElem (by show i<7;exact hi)]
      rfl
     rw [h2] at h1 ⊢
     have:=HO.cells (g:=g) rfl (j*7+i) _ h1
     rw [addr_add] at this;rw [Nat.zero_add];exact this
    have HSZ:Hid (w.heap.size≤g):=hg;have HAT:Hid (∀ x∈l,ZbH w.heap.size w x):=hat;clear hb hcap hm hsz htk hown HO hat;go_wp2_with fail;refine HS.out.mono ?_;rintro e w5 ⟨rfl,rs,hp,hup,b5,hcc⟩;have HF:Hid (rs.Perm l∧rs.Pairwise UpName∧Below g wr w5∧∀ (j:Nat) (x:PV),rs[j]?=some x→∀ i,i<7→w5.cell? ⟨g,0+j*7+i,none⟩=(modE x)[i]?):=⟨hp,hup,b5,hcc⟩;clear hp hup b5 hcc HS;go_wp2;go_ret;obtain ⟨hp,hup,b5,hcc⟩:=HF.out;refine ⟨⟨_,rs,rfl,⟨_,cap',by rw [hp.length_eq];rfl,by rw [hp.length_eq];omega,.inr ⟨g,0,rfl,Nat.lt_of_lt_of_le hgl b5.size,fun j x hj i hi=>?_⟩⟩,hp,hup⟩,B.trans (b5.mono HSZ.out)⟩;rw [hcc j x hj i hi];exact modE_at (HAT.out x (hp.mem_iff.1 (List.mem_of_getElem? hj))) i hi
def leN (a b:Mod):Bool:=decide (a.name.data.toList≤b.name.data.toList)
def risen (L:List Plc):List Mod:=(L.map (·.mod)).mergeSort leN
theorem risen_perm (L:List Plc):(risen L).Perm (L.map (·.mod)):=List.mergeSort_perm _ _
theorem risen_up (L:List Plc):(risen L).Pairwise fun a b=>leN a b=true:=by
 refine List.pairwise_mergeSort (fun a b c h1 h2=>?_) (fun a b=>?_) _
 ·simp only [leN,decide_eq_true_eq] at *;exact List.le_trans h1 h2
 ·simp only [leN,Bool.or_eq_true,decide_eq_true_eq];exact List.le_total _ _
theorem risen_of {l rs:List PV} (hp:rs.Perm l) (hu:rs.Pairwise UpName) (hd:(l.map (·.mod.name)).Nodup):rs.map (·.mod)=risen (l.map PV.plc):=by
 have hmm:(l.map PV.plc).map (·.mod)=l.map (·.mod):=by rw [List.map_map];rfl
 have hq:(rs.map (·.mod)).Perm (risen (l.map PV.plc)):=by
  have:=risen_perm (l.map PV.plc)
  rw [hmm] at this;exact (hp.map _).trans this.symm
 have hd2:((rs.map (·.mod)).map (·.name)).Nodup:=by
  rw [List.map_map];exact ((hp.map (fun x:PV=>x.mod.name)).nodup_iff).2 hd
 refine List.Perm.eq_of_pairwise (le:=fun a b=>leN a b=true) (fun a b ha hb h1 h2=>?_) ?_ (risen_up _) hq
 ·simp only [leN,decide_eq_true_eq] at h1 h2
  exact nodup_names hd2 ha (hq.mem_iff.2 hb) (bytes_ext (List.le_antisymm h1 h2))
 ·refine List.pairwise_map.2 (hu.imp fun {a b} h=>?_)
  simp only [leN,decide_eq_true_eq];exact List.not_lt.1 h
def ZbE (L:List Plc):List ByteArray × Int:=if Zav L≠0 then ([],Zav L) else ZbK (risen L)
theorem ordOf_cases (L:List Plc):(Zav L≠0∧ZbE L=([],Zav L))∨(Zav L=0∧ZbE L=ZbK (risen L)):=by
 unfold ZbE
 by_cases h:Zav L=0
 ·exact .inr ⟨h,by rw [if_neg (by omega)]⟩
 ·exact .inl ⟨h,by rw [if_pos h]⟩
theorem order_own (l:List PV) (v:Value) (w:World) (hrow:Zax w.heap.size w v l) (hfit:∀ x∈l,x.mod.fits) :
  Calls Tryz.prog 33 #[v] w fun e w'=>(∃ r,e=.returned (.tuple #[r,.int .i64 (ZbE (l.map PV.plc)).2])∧Zal 1 Zbn w'.heap.size w' r (ZbE (l.map PV.plc)).1∧CapOk r∧w'.ownsRow w.heap.size 9 1 r (ZbE (l.map PV.plc)).1.length ((ZbE (l.map PV.plc)).1.flatMap strC))∧Below w.heap.size w w':=by
 have HW:Hid (Calls Tryz.prog 88 #[v] w fun e w'=>e=.returned (.int .i64 (Zav (l.map PV.plc)))∧Below w.heap.size w w'):=graphWrong_any l v w hrow hfit;have HR:Hid (l.length≤8→∀ W,Below w.heap.size w W→Calls Tryz.prog 90 #[v] W fun e w'=>(∃ r rs,e=.returned r∧Zal 7 PV.cell w'.heap.size w' r rs∧rs.Perm l∧rs.Pairwise UpName)∧Below W.heap.size W w'):=fun h8 W hb=>rising_any l v W ((hrow.below hb).more hb.size) h8;have HO:Hid (∀ W rs r,Below w.heap.size w W→rs.Perm l→Zal 7 PV.cell W.heap.size W r rs→l.length≤8→Calls Tryz.prog 89 #[r] W fun e w'=>(∃ v,e=.returned (.tuple #[v,.int .i64 (ZbK (rs.map (·.mod))).2])∧Zal 1 Zbn w'.heap.size w' v (ZbK (rs.map (·.mod))).1∧CapOk v∧w'.ownsRow W.heap.size 9 1 v (ZbK (rs.map (·.mod))).1.length ((ZbK (rs.map (·.mod))).1.flatMap strC))∧Below W.heap.size W w'):=
  fun W rs r hb hp hr h8=>ordered_own rs r W hr (fun x hx=>((hrow.2 x (hp.mem_iff.1 hx)).below hb).more hb.size) (fun x hx=>hfit x (hp.mem_iff.1 hx)) (by rw [hp.length_eq];exact h8)
 have key:=ordOf_cases (l.map PV.plc);have HZ:Hid (Zav (l.map PV.plc)=0→l.length≤8∧∀ rs:List PV,rs.Perm l→rs.Pairwise UpName→rs.map (·.mod)=risen (l.map PV.plc)):=fun h0=>by
  have h1:=Zcc.1 h0;refine ⟨by simpa using h1.1,fun rs hp hu=>risen_of hp hu ?_⟩
  have:=h1.2.2
  rw [List.map_map] at this;exact this
 obtain ⟨⟨a,cap,rfl,_,_⟩,_⟩:=hrow;generalize Zav (l.map PV.plc)=cg at *;generalize ZbE (l.map PV.plc)=OO at *;generalize risen (l.map PV.plc)=RR at *;clear hfit
 go_enter Tryz.func33,Tryz.ntmps33
 go_wp2_with fail;refine HW.out.mono ?_;rintro e w2 ⟨rfl,B2⟩;clear HW
 rcases key with ⟨h0,rfl⟩ | ⟨rfl,rfl⟩
 ·have h0':(cg != 0)=true:=by simpa using h0
  clear h0;go_wp2;go_ret2;exact ⟨⟨_,rfl,⟨none,0,rfl,by simp,.inl rfl⟩,capNil,World.ownsRow_nil _ _ _ _⟩,B2⟩
 ·obtain ⟨h8,hrs⟩:=HZ.out (by first | rfl | trivial)
  have HRS:Hid (∀ rs:List PV,rs.Perm l→rs.Pairwise UpName→rs.map (·.mod)=RR):=hrs;clear hrs HZ;go_wp2_with fail;refine (HR.out h8 _ B2).mono ?_;rintro e w3 ⟨⟨r,rs,rfl,hr,hp,hu⟩,b3⟩;have B3:=B2.trans (b3.mono B2.size);have HC:=HO.out w3 rs r B3 hp hr h8;rw [HRS.out rs hp hu] at HC;have HCC:Hid (Calls Tryz.prog 89 #[r] w3 fun e w'=>(∃ v,e=.returned (.tuple #[v,.int .i64 (ZbK RR).2])∧Zal 1 Zbn w'.heap.size w' v (ZbK RR).1∧CapOk v∧w'.ownsRow w3.heap.size 9 1 v (ZbK RR).1.length ((ZbK RR).1.flatMap strC))∧Below w3.heap.size w3 w'):=HC;clear HC HO HR hp hu hr HRS b3;go_wp2_with fail;refine HCC.out.mono ?_;rintro e w4 ⟨⟨u,rfl,hu,hcu,hou⟩,b4⟩;have HU:Hid (Zal 1 Zbn w4.heap.size w4 u (ZbK RR).1∧CapOk u∧w4.ownsRow w.heap.size 9 1 u (ZbK RR).1.length ((ZbK RR).1.flatMap strC)):=⟨hu,hcu,ZbR hou B3.size⟩;have B4:=B3.trans (b4.mono B3.size);clear HCC hu hcu hou b4;go_wp2;go_ret2;exact ⟨⟨_,rfl,HU.out.1,HU.out.2.1,HU.out.2.2⟩,B4⟩
theorem order_any (l:List PV) (v:Value) (w:World) (hrow:Zax w.heap.size w v l) (hfit:∀ x∈l,x.mod.fits) :
  Calls Tryz.prog 33 #[v] w fun e w'=>(∃ r,e=.returned (.tuple #[r,.int .i64 (ZbE (l.map PV.plc)).2])∧Zal 1 Zbn w'.heap.size w' r (ZbE (l.map PV.plc)).1∧CapOk r)∧Below w.heap.size w w':=by
 refine (order_own l v w hrow hfit).mono ?_;rintro e w' ⟨⟨r,h1,h2,h3,_⟩,hb⟩;exact ⟨⟨r,h1,h2,h3⟩,hb⟩
theorem bytes_app (a b:ByteArray):(a++b).data.toList=a.data.toList++b.data.toList:=by
 rw [ByteArray.data_append,Array.toList_append]
theorem size_list (s:ByteArray):s.size=s.data.toList.length:=by
 rw [Array.length_toList];rfl
theorem bytes_eq {a b:ByteArray} (h:a.data.toList=b.data.toList):a=b:=by
 obtain ⟨⟨a⟩⟩:=a;obtain ⟨⟨b⟩⟩:=b;simp at h;rw [h]
def blanks (n:Nat):ByteArray:=⟨(List.replicate n (255:UInt8)).toArray⟩
theorem blanks_list (n:Nat):(blanks n).data.toList=List.replicate n (255:UInt8):=by simp [blanks]
theorem blanks_size (n:Nat):(blanks n).size=n:=by rw [size_list,blanks_list,List.length_replicate]
theorem repeat_blank (c:Nat):(⟨(Lib.repeatL [(255:UInt8)] c).toArray⟩:ByteArray)=blanks c:=by
 have h:∀ c,Lib.repeatL [(255:UInt8)] c=List.replicate c 255:=by
  intro c
  induction c with
  | zero=>rfl
  | succ n ih=>rw [Lib.repeatL,ih];rfl
 rw [h];rfl
def Zaz (s:ByteArray) (n:Nat):ByteArray:=s++blanks (n-s.size)
theorem fillTo_size {s:ByteArray} {n:Nat} (h:s.size≤n):(Zaz s n).size=n:=by
 unfold Zaz;rw [ByteArray.size_append,blanks_size]
 omega
theorem fillTo_done {s:ByteArray} {n:Nat} (h:n≤s.size):Zaz s n=s:=by
 unfold Zaz;rw [show n-s.size=0 by omega];refine bytes_eq ?_;rw [bytes_app,blanks_list]
 simp
theorem fillTo_step {s:ByteArray} {n:Nat} (h:s.size<n):Zaz (s++⟨#[255]⟩) n=Zaz s n:=by
 unfold Zaz;refine bytes_eq ?_;rw [bytes_app,bytes_app,bytes_app,blanks_list,blanks_list,ByteArray.size_append];obtain ⟨k,hk⟩:∃ k,n-s.size=k+1:=⟨n-s.size-1,by omega⟩;rw [show n-(s.size+ByteArray.size ⟨#[255]⟩)=k from by
  have:ByteArray.size ⟨#[255]⟩=1:=rfl
  omega,hk,List.replicate_succ]
 simp
def symOf (ads:List Int) (beg:Int) (p:Pat):Int:=if 0≤p.sym then (ads[p.sym.toNat]?).getD 0 else beg
def patd (ads:List Int) (beg:Int):ByteArray→List Pat→ByteArray × Int
 | s,[]=>(s,0)
 | s,p::r=>if ZaJ s.size p (symOf ads beg p) beg≠0 then (⟨#[]⟩,ZaJ s.size p (symOf ads beg p) beg) else patd ads beg (Zbm s p (symOf ads beg p) beg) r
theorem appStr_size {s:ByteArray} {p:Pat} {sym base:Int} (h:ZaJ s.size p sym base=0):(Zbm s p sym base).size=s.size:=by
 unfold Zbm;rw [if_pos h,putS_size]
theorem patd_size {ads:List Int} {beg:Int}:∀ {l:List Pat} {s:ByteArray},(patd ads beg s l).2=0→(patd ads beg s l).1.size=s.size
 | [],s,_=>rfl
 | p::r,s,h=>by
  unfold patd at h ⊢
  by_cases h0:ZaJ s.size p (symOf ads beg p) beg=0
  ·rw [if_neg (by omega)] at h ⊢
   rw [patd_size h,appStr_size h0]
  ·rw [if_pos h0] at h
   exact absurd h h0
def ZaY (K:Ker) (L:List Plc) (p:Plc):ByteArray × Int:=
 if (ZaK K L p.mod).2≠0 then (⟨#[]⟩,(ZaK K L p.mod).2)
 else if (patd (ZaK K L p.mod).1 (4096+p.first*64) p.mod.text p.mod.pats).2≠0 then (⟨#[]⟩,(patd (ZaK K L p.mod).1 (4096+p.first*64) p.mod.text p.mod.pats).2)
 else (Zaz (patd (ZaK K L p.mod).1 (4096+p.first*64) p.mod.text p.mod.pats).1 (64*szM p.mod),0)
theorem imgRes_cases (K:Ker) (L:List Plc) (p:Plc) :
  ((ZaK K L p.mod).2≠0∧ZaY K L p=(⟨#[]⟩,(ZaK K L p.mod).2))∨
  ((ZaK K L p.mod).2=0∧(patd (ZaK K L p.mod).1 (4096+p.first*64) p.mod.text p.mod.pats).2≠0∧ZaY K L p=(⟨#[]⟩,(patd (ZaK K L p.mod).1 (4096+p.first*64) p.mod.text p.mod.pats).2))∨
  ((ZaK K L p.mod).2=0∧(patd (ZaK K L p.mod).1 (4096+p.first*64) p.mod.text p.mod.pats).2=0∧ZaY K L p=(Zaz (patd (ZaK K L p.mod).1 (4096+p.first*64) p.mod.text p.mod.pats).1 (64*szM p.mod),0)):=by
 unfold ZaY
 by_cases h1:(ZaK K L p.mod).2=0
 ·by_cases h2:(patd (ZaK K L p.mod).1 (4096+p.first*64) p.mod.text p.mod.pats).2=0
  ·exact .inr (.inr ⟨h1,h2,by rw [if_neg (by omega),if_neg (by omega)]⟩)
  ·exact .inr (.inl ⟨h1,h2,by rw [if_neg (by omega),if_pos h2]⟩)
 ·exact .inl ⟨h1,by rw [if_pos h1]⟩
theorem szM_le (m:Mod):m.text.size≤64*szM m:=by unfold szM;omega
theorem imgRes_size {K:Ker} {L:List Plc} {p:Plc} (h:(ZaY K L p).2=0):(ZaY K L p).1.size=64*szM p.mod:=by
 rcases imgRes_cases K L p with ⟨h1,e⟩ | ⟨h1,h2,e⟩ | ⟨h1,h2,e⟩
 ·rw [e] at h;exact absurd h h1
 ·rw [e] at h;exact absurd h h2
 ·rw [e]
  exact fillTo_size (by rw [patd_size h2];exact szM_le _)
def ZaM (K:Ker) (L:List Plc):ByteArray→List Plc→ByteArray × Int
 | s,[]=>(Zaz s 1024,0)
 | s,p::r=>if (ZaY K L p).2≠0 then (⟨#[]⟩,(ZaY K L p).2) else ZaM K L (Zaz s (64*p.first.toNat)++(ZaY K L p).1) r
def ZaA (K:Ker) (L:List Plc):Int:=if ZaS K≠0 then ZaS K else if Zas L≠0 then Zas L else if twiceFrom [] L=true then 6 else 0
theorem chkLink_cases (K:Ker) (L:List Plc):(ZaS K≠0∧ZaA K L=ZaS K)∨(ZaS K=0∧Zas L≠0∧ZaA K L=Zas L)∨(ZaS K=0∧Zas L=0∧twiceFrom [] L=true∧ZaA K L=6)∨(ZaS K=0∧Zas L=0∧twiceFrom [] L=false∧ZaA K L=0):=by
 unfold ZaA
 by_cases h1:ZaS K=0
 ·by_cases h2:Zas L=0
  ·cases h3:twiceFrom [] L
   ·exact .inr (.inr (.inr ⟨h1,h2,rfl,by rw [if_neg (by omega),if_neg (by omega),if_neg (by decide)]⟩))
   ·exact .inr (.inr (.inl ⟨h1,h2,rfl,by rw [if_neg (by omega),if_neg (by omega),if_pos rfl]⟩))
  ·exact .inr (.inl ⟨h1,h2,by rw [if_neg (by omega),if_pos h2]⟩)
 ·exact .inl ⟨h1,by rw [if_pos h1]⟩
theorem Zbe {K:Ker} {L:List Plc} (h:ZaA K L=0):ZaS K=0∧Zas L=0∧twiceFrom [] L=false:=by
 rcases chkLink_cases K L with ⟨h1,e⟩ | ⟨_,h1,e⟩ | ⟨_,_,_,e⟩ | ⟨h1,h2,h3,_⟩
 ·exact absurd (e ▸ h) h1
 ·exact absurd (e ▸ h) h1
 ·rw [e] at h;exact absurd h (by decide)
 ·exact ⟨h1,h2,h3⟩
theorem reg_find {K:Ker} {L:List Plc} (hK:ZaS K=0) (h:Zas L=0):ZaQ K L=0:=by
 obtain ⟨h1,h2,h3⟩:=ZaO.1 h;unfold ZaQ;rw [if_neg (by omega)];unfold chkPlaced;rw [if_neg (by omega),chkPls_by];refine Zcm.2 fun p hp=>⟨h2 p hp,?_⟩
 have:=okPl_first h3 p hp
 have hs:=Zco (h2 p hp);unfold farErr;rw [ZaL (by omega) (by omega),if_neg (by decide)]
theorem link_find {K:Ker} {L:List Plc} (h:ZaA K L=0):ZaQ K L=0:=reg_find (Zbe h).1 (Zbe h).2.1
def ZbY (K:Ker) (L:List Plc):ByteArray × Int:=if ZaA K L≠0 then (⟨#[]⟩,ZaA K L) else ZaM K L ⟨#[]⟩ L
theorem lnOrd_err {L:List Plc} (h:Zas L=0):(twiceFrom [] L=true∧(ZbE L).2=6)∨(twiceFrom [] L=false∧Zav L=0∧((ZbE L).2=0∨(ZbE L).2=4)):=by
 obtain ⟨h1,h2,_⟩:=ZaO.1 h
 rcases chkGraph_cases L with ⟨hp,_⟩ | ⟨_,_,e⟩
 ·refine absurd ?_ hp
  unfold ZbN;rw [if_neg (by omega)];exact Zcm.2 fun p hp=>⟨h2 p hp,rfl⟩
 ·cases ht:twiceFrom [] L
  ·rw [ht,if_neg (by decide)] at e
   refine .inr ⟨rfl,e,?_⟩;unfold ZbE;rw [if_neg (by omega)];unfold ZbK
   split
   ·exact .inr rfl
   ·exact .inl rfl
  ·rw [ht,if_pos rfl] at e
   refine .inl ⟨rfl,?_⟩;unfold ZbE;rw [if_pos (by omega),e]
end Go.Proofs.YtlpnfbpgnfappaaGreat
namespace Go.Proofs.YtlpnfbpgnfappaaGreat
open Go.Shelf Go.RowKit
def repL_ren:Go.Shelf.Ren:=⟨fun | 105=>186 | 212=>208 | 99=>209 | 165=>210 | 166=>211 | 170=>212 | 169=>213 | 263=>230 | 264=>231 | 206=>232 | 240=>233 | 241=>234 | 276=>242 | 277=>243 | n=>n,fun | 9=>9 | 3=>3 | 4=>4 | 20=>20 | 0=>0 | 46=>204 | 109=>232 | 5=>5 | 72=>237 | 76=>241 | 51=>224 | 146=>256 | 53=>226 | 148=>258 | 70=>235 | 37=>117 | 75=>240 | 127=>244 | 164=>266 | 80=>122 | n=>n,fun | n=>n⟩
theorem repL:Go.Proofs.Lays.n105 Tryz.prog repL_ren:={
 mixed:=by kernel_rfl
 f99:=Tryz.func209.trans (congrArg some (by kernel_rfl))
 f105:=Tryz.func186.trans (congrArg some (by kernel_rfl))
 f165:=Tryz.func210.trans (congrArg some (by kernel_rfl))
 f166:=Tryz.func211.trans (congrArg some (by kernel_rfl))
 f169:=Tryz.func213.trans (congrArg some (by kernel_rfl))
 f170:=Tryz.func212.trans (congrArg some (by kernel_rfl))
 f206:=Tryz.func232.trans (congrArg some (by kernel_rfl))
 f212:=Tryz.func208.trans (congrArg some (by kernel_rfl))
 f240:=Tryz.func233.trans (congrArg some (by kernel_rfl))
 f241:=Tryz.func234.trans (congrArg some (by kernel_rfl))
 f263:=Tryz.func230.trans (congrArg some (by kernel_rfl))
 f264:=Tryz.func231.trans (congrArg some (by kernel_rfl))
 f276:=Tryz.func242.trans (congrArg some (by kernel_rfl))
 f277:=Tryz.func243.trans (congrArg some (by kernel_rfl))
 t0:=Tryz.underlying0
 a0:=Tryz.isAgg0
 z0:=Tryz.sizeOf0
 v0:=Tryz.zeroValue0
 t3:=Tryz.underlying3
 a3:=Tryz.isAgg3
 z3:=Tryz.sizeOf3
 v3:=Tryz.zeroValue3
 t4:=Tryz.underlying4
 a4:=Tryz.isAgg4
 z4:=Tryz.sizeOf4
 v4:=Tryz.zeroValue4
 t5:=Tryz.underlying5
 a5:=Tryz.isAgg5
 z5:=Tryz.sizeOf5
 v5:=Tryz.zeroValue5
 t9:=Tryz.underlying9
 a9:=Tryz.isAgg9
 z9:=Tryz.sizeOf9
 v9:=Tryz.zeroValue9
 t20:=Tryz.underlying20
 a20:=Tryz.isAgg20
 z20:=Tryz.sizeOf20
 v20:=Tryz.zeroValue20
 t37:=Tryz.underlying117
 a37:=Tryz.isAgg117
 z37:=Tryz.sizeOf117
 v37:=Tryz.zeroValue117
 t46:=Tryz.underlying204
 a46:=Tryz.isAgg204
 z46:=Tryz.sizeOf204
 v46:=Tryz.zeroValue204
 t51:=Tryz.underlying224
 a51:=Tryz.isAgg224
 z51:=Tryz.sizeOf224
 v51:=Tryz.zeroValue224
 t53:=Tryz.underlying226
 a53:=Tryz.isAgg226
 z53:=Tryz.sizeOf226
 v53:=Tryz.zeroValue226
 t70:=Tryz.underlying235
 a70:=Tryz.isAgg235
 z70:=Tryz.sizeOf235
 v70:=Tryz.zeroValue235
 t72:=Tryz.underlying237
 a72:=Tryz.isAgg237
 z72:=Tryz.sizeOf237
 v72:=Tryz.zeroValue237
 t75:=Tryz.underlying240
 a75:=Tryz.isAgg240
 z75:=Tryz.sizeOf240
 v75:=Tryz.zeroValue240
 t76:=Tryz.underlying241
 a76:=Tryz.isAgg241
 z76:=Tryz.sizeOf241
 v76:=Tryz.zeroValue241
 t109:=Tryz.underlying232
 a109:=Tryz.isAgg232
 z109:=Tryz.sizeOf232
 v109:=Tryz.zeroValue232
 t127:=Tryz.underlying244
 a127:=Tryz.isAgg244
 z127:=Tryz.sizeOf244
 v127:=Tryz.zeroValue244
 t146:=Tryz.underlying256
 a146:=Tryz.isAgg256
 z146:=Tryz.sizeOf256
 v146:=Tryz.zeroValue256
 t148:=Tryz.underlying258
 a148:=Tryz.isAgg258
 z148:=Tryz.sizeOf258
 v148:=Tryz.zeroValue258
 t164:=Tryz.underlying266
 a164:=Tryz.isAgg266
 z164:=Tryz.sizeOf266
 v164:=Tryz.zeroValue266 }
theorem repX:Builder.Extra Tryz.prog repL_ren where
 sizeBuilder:=by kernel_rfl
 liesBuilder:=by kernel_rfl
 t5:=repL.t5
 a5:=repL.a5
 z5:=repL.z5
 v5:=repL.v5
 infoByte:=by kernel_rfl
 cellsByte:=by kernel_rfl
 sizeByte:=by kernel_rfl
 neB5:=by decide
theorem repeat_any (s:ByteArray) (c:Nat) (w:World) (hc:c≤9223372036854775807) (hlen:s.size*c≤140737488355328) :
  Calls Tryz.prog 186 #[.string s,.int .i64 c] w fun e w'=>e=.returned (.string ⟨(Lib.repeatL s.data.toList c).toArray⟩)∧Below w.heap.size w w':=
 Any.strings_Repeat repL repX s c w hc hlen
end Go.Proofs.YtlpnfbpgnfappaaGreat
namespace Go.Proofs.YtlpnfbpgnfappaaGreat
open Go.RowKit Go.PlainAid
theorem sectors_any (N T:ByteArray) (ma mi:Int) (pe pi pp:Option Addr) (le ke li ki lp kp:Nat) (w:World) (hT:T.size≤256) :
  Calls Tryz.prog 65 #[.agg #[.string N,.int .i64 ma,.int .i64 mi,.string T,.slice pe le ke,.slice pi li ki,.slice pp lp kp]] w fun e w'=>e=.returned (.int .i64 (((T.size+63) / 64:Nat):Int))∧Below w.heap.size w w':=by
 have e1:((T.size:Int)+64-1) / 64=(((T.size+63) / 64:Nat):Int):=by omega
 go_enter Tryz.func65,Tryz.ntmps65
 go_wp2;go_ret;refine ⟨?_,(Below.refl _ _).alloc (Nat.le_refl _) _⟩
 show Ending.returned (.int .i64 (((T.size:Int)+64-1) / 64))=_
 rw [e1]
theorem size_any (M:Mod) (v:Value) (w:World) (hM:Zbf w.heap.size w v M) (hf:M.fits) :
  Calls Tryz.prog 18 #[v] w fun e w'=>e=.returned (.tuple #[.int .i64 (if Zac M=0 then (szM M:Int) else 0),.int .i64 (Zac M)])∧Below w.heap.size w w':=by
 have HC:Hid (∀ W,Below w.heap.size w W→Calls Tryz.prog 64 #[v] W fun e w'=>e=.returned (.int .i64 (Zac M))∧Below W.heap.size W w'):=fun W hb=>check_any M v W ((hM.below hb).more hb.size) hf;have HT:Zac M=0→M.text.size≤256:=fun h=>(Zco h).2.2.1;have hsz:Hid (szM M=(M.text.size+63) / 64):=rfl;have key:(Zac M=0∧(if Zac M=0 then (szM M:Int) else 0)=(szM M:Int))∨(Zac M≠0∧(if Zac M=0 then (szM M:Int) else 0)=0):=by
  by_cases h:Zac M=0
  ·exact .inl ⟨h,if_pos h⟩
  ·exact .inr ⟨h,if_neg h⟩
 generalize (if Zac M=0 then (szM M:Int) else 0)=R at *;generalize szM M=sz at *;generalize Zac M=cm at *;obtain ⟨ve,vi,vp,rfl,hE,hI,hP⟩:=hM;obtain ⟨pe,ke,rfl,_,_⟩:=hE;obtain ⟨pi,ki,rfl,_,_⟩:=hI;obtain ⟨pp,kp,rfl,_,_⟩:=hP;obtain ⟨N,ma,mi,T,es,is,ps⟩:=M;dsimp only at *;generalize es.length=le at *;generalize is.length=li at *;generalize ps.length=lp at *;have HB:Hid (Below w.heap.size w (w.alloc (.cells #[.string N,.int .i64 ma,.int .i64 mi,.string T,.slice pe le ke,.slice pi li ki,.slice pp lp kp] 31))):=(Below.refl _ _).alloc (Nat.le_refl _) _;have HCA:Hid (Za (w.alloc (.cells #[.string N,.int .i64 ma,.int .i64 mi,.string T,.slice pe le ke,.slice pi li ki,.slice pp lp kp] 31)) w.heap.size 31 #[.string N,.int .i64 ma,.int .i64 mi,.string T,.slice pe le ke,.slice pi li ki,.slice pp lp kp]):=Za.new _ _ _
 go_enter Tryz.func18,Tryz.ntmps18
 go_wp2_with fail;refine (HC.out _ HB.out).mono ?_;rintro e w2 ⟨rfl,b2⟩;have B2:=HB.out.trans (b2.mono HB.out.size);have C2:=HCA.out.below b2 HCA.out.lt;clear HB HCA b2 HC
 rcases key with ⟨rfl,rfl⟩ | ⟨h0,rfl⟩
 ·have hT:T.size≤256:=by first | exact HT rfl | exact HT trivial | exact HT
  have t0:=C2.cell 0;have t1:=C2.cell 1;have t2:=C2.cell 2;have t3:=C2.cell 3;have t4:=C2.cell 4;have t5:=C2.cell 5;have t6:=C2.cell 6;simp at t0 t1 t2 t3 t4 t5 t6;clear C2 HT;go_wp2_with fail;refine (sectors_any _ _ _ _ _ _ _ _ _ _ _ _ _ _ hT).mono ?_;rintro e w3 ⟨rfl,b3⟩;have B3:=B2.trans (b3.mono B2.size);clear b3 t0 t1 t2 t3 t4 t5 t6;rw [← hsz.out];clear hsz;go_wp2;go_ret2;exact ⟨rfl,B3⟩
 ·have h0':(cm != 0)=true:=by simpa using h0
  clear C2 HT h0;go_wp2;go_ret2;exact ⟨rfl,B2⟩
theorem outside_any (x:PV) (n₀:Nat) (w:World) (hat:ZbH n₀ w x) (h0:Zac x.mod=0) :
  Calls Tryz.prog 122 #[x.val] w fun e w'=>e=.returned (.int .i64 (Zbi x.plc))∧Below w.heap.size w w':=by
 have hT:x.mod.text.size≤256:=(Zco h0).2.2.1;have key:(x.first<0∧Zbi x.plc=3)∨(0≤x.first∧16-(szM x.mod:Int)<x.first∧Zbi x.plc=3)∨(0≤x.first∧x.first≤16-(szM x.mod:Int)∧Zbi x.plc=0):=by
  unfold Zbi PV.plc;dsimp only
  by_cases g1:x.first<0
  ·exact .inl ⟨g1,if_pos (.inl g1)⟩
  by_cases g2:16-(szM x.mod:Int)<x.first
  ·exact .inr (.inl ⟨by omega,g2,if_pos (.inr g2)⟩)
  ·exact .inr (.inr ⟨by omega,by omega,if_neg (by omega)⟩)
 have hsz:szM x.mod=(x.mod.text.size+63) / 64:=rfl;have hs4:=(Zco h0).2.1;generalize szM x.mod=sz at *;generalize Zbi x.plc=oe at *;unfold PV.val;obtain ⟨⟨pe,ke,e4,_⟩,⟨pi,ki,e5,_⟩,⟨pp,kp,e6,_⟩⟩:=hat;obtain ⟨⟨N,ma,mi,T,es,is,ps⟩,ve,vi,vp,fi⟩:=x;dsimp only at *;subst e4 e5 e6;generalize es.length=le at *;generalize is.length=li at *;generalize ps.length=lp at *;clear h0;have HS:Hid (∀ W,Calls Tryz.prog 65 #[.agg #[.string N,.int .i64 ma,.int .i64 mi,.string T,.slice pe le ke,.slice pi li ki,.slice pp lp kp]] W fun e w'=>e=.returned (.int .i64 (sz:Int))∧Below W.heap.size W w'):=fun W=>by
  rw [hsz];exact sectors_any _ _ _ _ _ _ _ _ _ _ _ _ _ _ hT
 clear hsz;have C2:Za (w.alloc (.cells #[.string N,.int .i64 ma,.int .i64 mi,.string T,.slice pe le ke,.slice pi li ki,.slice pp lp kp,.int .i64 fi] 57)) w.heap.size 57 #[.string N,.int .i64 ma,.int .i64 mi,.string T,.slice pe le ke,.slice pi li ki,.slice pp lp kp,.int .i64 fi]:=Za.new _ _ _;have B2:Below w.heap.size w (w.alloc (.cells #[.string N,.int .i64 ma,.int .i64 mi,.string T,.slice pe le ke,.slice pi li ki,.slice pp lp kp,.int .i64 fi] 57)):=(Below.refl _ _).alloc (Nat.le_refl _) _;have t0:=cell_regrown (C2.cell 0);have t1:=cell_regrown (C2.cell 1);have t2:=cell_regrown (C2.cell 2);have t3:=cell_regrown (C2.cell 3);have t4:=cell_regrown (C2.cell 4);have t5:=cell_regrown (C2.cell 5);have t6:=cell_regrown (C2.cell 6);have t7:=cell_regrown (C2.cell 7);clear C2
 rcases key with ⟨h1,rfl⟩ | ⟨h1,h2,rfl⟩ | ⟨h1,h2,rfl⟩
 ·go_enter Tryz.func122,Tryz.ntmps122
  go_wp2_with fail;generalize w.alloc (.cells #[.string N,.int .i64 ma,.int .i64 mi,.string T,.slice pe le ke,.slice pi li ki,.slice pp lp kp,.int .i64 fi] 57)=W1 at t0 t1 t2 t3 t4 t5 t6 t7 B2 ⊢;refine wp_region_quiet_below (by kernel_rfl) (by kernel_rfl) ?_
  repeat (quiet_step ((go_at_call 65;go_must (exact Calls.regrown_of (HS.out _)))))
  refine wpQuiet_nil ?_;intro _ hw';obtain ⟨⟨dq,osq⟩,hw''⟩:=hw';have B5:=B2.trans ((below_regrown W1 dq osq).mono B2.size);rw [← hw''] at B5;clear hw'';go_wp2;go_ret;exact ⟨rfl,B5⟩
 ·have h1':decide (fi<0)=false:=decide_eq_false (by omega)
  go_enter Tryz.func122,Tryz.ntmps122
  go_wp2_with fail;generalize w.alloc (.cells #[.string N,.int .i64 ma,.int .i64 mi,.string T,.slice pe le ke,.slice pi li ki,.slice pp lp kp,.int .i64 fi] 57)=W1 at t0 t1 t2 t3 t4 t5 t6 t7 B2 ⊢;have i1:IntKind.i64.wrap (16-(sz:Int))=16-(sz:Int):=by rw [i64_is];unfold wrap64;omega
  refine wp_region_quiet_below (by kernel_rfl) (by kernel_rfl) ?_
  repeat (quiet_step ((go_at_call 65;go_must (exact Calls.regrown_of (HS.out _)))))
  refine wpQuiet_nil ?_;intro _ hw';obtain ⟨⟨dq,osq⟩,hw''⟩:=hw';have B5:=B2.trans ((below_regrown W1 dq osq).mono B2.size);rw [← hw''] at B5;clear hw'';go_wp2;go_ret;exact ⟨rfl,B5⟩
 ·have h1':decide (fi<0)=false:=decide_eq_false (by omega)
  have h2':decide (16-(sz:Int)<fi)=false:=decide_eq_false (by omega)
  go_enter Tryz.func122,Tryz.ntmps122
  go_wp2_with fail;generalize w.alloc (.cells #[.string N,.int .i64 ma,.int .i64 mi,.string T,.slice pe le ke,.slice pi li ki,.slice pp lp kp,.int .i64 fi] 57)=W1 at t0 t1 t2 t3 t4 t5 t6 t7 B2 ⊢;have i1:IntKind.i64.wrap (16-(sz:Int))=16-(sz:Int):=by rw [i64_is];unfold wrap64;omega
  refine wp_region_quiet_below (by kernel_rfl) (by kernel_rfl) ?_
  repeat (quiet_step ((go_at_call 65;go_must (exact Calls.regrown_of (HS.out _)))))
  refine wpQuiet_nil ?_;intro _ hw';obtain ⟨⟨dq,osq⟩,hw''⟩:=hw';have B5:=B2.trans ((below_regrown W1 dq osq).mono B2.size);rw [← hw''] at B5;clear hw'';go_wp2;go_ret;exact ⟨rfl,B5⟩
def runC (r:Int × Int):List Value:=[.int .i64 r.1,.int .i64 r.2]
def Zbu (r:Int × Int):Nat→Value
 | 0=>.int .i64 r.1
 | _=>.int .i64 r.2
theorem runC_at (x:Int × Int) (i:Nat) (hi:i<2):(runC x)[i]?=some (Zbu x i):=by
 have:i=0∨i=1:=by omega
 rcases this with rfl | rfl <;> rfl
theorem infoRun:(Tryz.prog.info? 48).map (fun i=>(i.zero,i.size,i.bytes))=some (some (.agg #[.int .i64 0,.int .i64 0]),2,16):=by kernel_rfl
theorem infoRun_parts:∃ i,Tryz.prog.info? 48=some i∧i.zero=some (.agg #[.int .i64 0,.int .i64 0])∧i.size=2∧i.bytes=16:=by
 have h:=infoRun
 cases hi:Tryz.prog.info? 48 with
 | none=>rw [hi] at h;cases h
 | some i=>
  rw [hi] at h;simp at h;exact ⟨i,rfl,h.1,h.2.1,h.2.2⟩
theorem gap_any (l:List (Int × Int)) (a b:Int) (v:Value) (base:Nat) (w:World) (hown:w.ownsRow base 48 2 v l.length (l.flatMap runC)) (hb:base≤w.heap.size) (hl:l.length≤16) (ha:0≤a∧a≤16) (hb2:0≤b∧b≤16) :
  Calls Tryz.prog 67 #[v,.int .i64 a,.int .i64 b] w fun e w'=>(∃ r,e=.returned r∧w'.ownsRow base 48 2 r (l++Zce a b).length ((l++Zce a b).flatMap runC))∧w.grownBy w' v.ownBlock:=by
 have HO:=hown;obtain ⟨av,kv,rfl⟩:=Zae hown
 by_cases h:a=b
 ·subst h
  have e1:l++Zce a a=l:=by simp [Zce]
  rw [e1]
  go_enter Tryz.func67,Tryz.ntmps67
  go_wp2;go_ret;exact ⟨⟨_,rfl,HO⟩,World.grownBy.refl _ _⟩
 ·have e1:l++Zce a b=l++[(a,b-a)]:=by simp [Zce,h]
  rw [e1];have h':(a == b)=false:=beq_eq_false_iff_ne.2 h;obtain ⟨ii,hii,hz0,hz1,hz2⟩:=infoRun_parts;generalize hk:l.length=k at *
  go_enter Tryz.func67,Tryz.ntmps67
  go_wp2_with (at_builtin;refine wpList_append_lies _ rfl _ _ _ rfl base 48 ii _ 2 16 Tryz.underlying44 hii hz0 hz1 hz2 rfl (by omega) (.slice av k kv) k (l.flatMap runC) rfl (HO.alloc _) ⟨w.heap.size,0,none⟩ 1 1 [.int .i64 a,.int .i64 (b-a)] rfl rfl (World.news_of_block (cs:=#[.int .i64 a,.int .i64 (b-a)]) (t:=48) (fr:=(0,0)) (Za.new w 48 #[.int .i64 a,.int .i64 (b-a)])) (by simp [Value.oneCell']) (by omega) (by unfold maxLen;omega) (by omega) (by simp;omega) (w.heap.size+1) (by simp) ?_;intro g gc w8 hown8 hgrow hat hltg);go_ret;refine ⟨⟨_,rfl,?_⟩,(World.grownBy_alloc w _ _).trans hgrow⟩;rw [List.length_append,List.flatMap_append,hk];exact hown8
end Go.Proofs.YtlpnfbpgnfappaaGreat
