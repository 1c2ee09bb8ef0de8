/- Texts that are laid together. -/
import Derived.Test.YtlpnfbpgnfappaaGreatMrgB
import Derived.Laws.Rows
import Derived.Laws.ResultCell
import Derived.Deep.AppendLies
import Derived.Test.YtlpnfbpgnfappaaGreatProg
import Derived.Deep.Upon
import Derived.RangeFuncNested
import Derived.RangeFuncBound
import Derived.RangeFuncCalls
import Derived.RangeFuncLeaves
import Derived.RangeFuncBox
import Derived.Shelf.Abstract
import Derived.Shelf.RegionOpen
import Derived.WalkKit
import Derived.OwnWalkIn
import Derived.TacticsInMore
import Derived.LoopNIn
import Derived.LoopIn
import Derived.Test.YtlpnfbpgnfappaaGreatMrgA
set_option maxHeartbeats 256000000
set_option maxRecDepth 100000

namespace Go.Proofs.YtlpnfbpgnfappaaGreat
open Go.RowKit Go.PlainAid
structure Ker where
 major:Int
 minor:Int
 exps:List Exp
structure Plc where
 mod:Mod
 first:Int
def ZaS (k:Ker):Int:=if Zcg k.major k.minor=false then 3 else if 8<k.exps.length then 2 else Zay 4096 [] k.exps
def chkPls:List Plc→Int
 | []=>0
 | p::l=>if Zac p.mod≠0 then Zac p.mod else if betw p.first 0 15=false then 3 else chkPls l
def chkPlaced (l:List Plc):Int:=if 8<l.length then 2 else chkPls l
def ZaQ (k:Ker) (l:List Plc):Int:=if ZaS k≠0 then ZaS k else chkPlaced l
structure Tgt where
 major:Int
 minor:Int
 beg:Int
 exps:List Exp
def tgtOf (k:Ker) (l:List Plc) (name:ByteArray):Option Tgt:=
 if (name == kernelName)=true then some ⟨k.major,k.minor,0,k.exps⟩
 else (l.find? fun p=>p.mod.name == name).map fun p=>⟨p.mod.major,p.mod.minor,4096+p.first*64,p.mod.exps⟩
def expOf (l:List Exp) (name:ByteArray):Option Exp:=l.find? fun x=>x.name == name
def addrOf (k:Ker) (l:List Plc) (i:Imp):Int × Int:=
 match tgtOf k l i.mod with
 | none=>(0,5)
 | some t=>if t.major≠i.major∨t.minor<i.minor then (0,4) else match expOf t.exps i.name with
  | none=>(0,5)
  | some x=>(t.beg+x.pos,0)
theorem expErr_zero {most:Int} {met:List ByteArray} {e:Exp} (h:ZbO most met e=0):isNm e.name=true∧0≤e.pos∧e.pos<most:=by
 obtain ⟨n,p⟩:=e
 rcases expErr_cases most met n p with ⟨_,h1⟩ | ⟨_,_,h1⟩ | ⟨_,_,_,h1⟩ | ⟨_,_,_,_,h1⟩ | ⟨h0,_,h1,h2,_⟩
 all_goals first | (rw [h] at h1;exact absurd h1 (by decide)) | exact ⟨h0,h1,h2⟩
theorem chkExps_pos {most:Int}:∀ {l:List Exp} {met:List ByteArray},Zay most met l=0→∀ e∈l,isNm e.name=true∧0≤e.pos∧e.pos<most
 | [],_,_,e,he=>by simp at he
 | x::l,met,h,e,he=>by
  unfold Zay at h
  by_cases h0:ZbO most met x=0
  ·rw [if_pos h0] at h
   rcases List.mem_cons.1 he with rfl | he
   ·exact expErr_zero h0
   ·exact chkExps_pos h e he
  ·rw [if_neg h0] at h
   exact absurd h h0
theorem Zbl {M:Mod} (h:Zac M=0):(∀ e∈M.exps,isNm e.name=true∧0≤e.pos∧e.pos<M.text.size)∧M.text.size≤256∧M.exps.length≤6∧M.imps.length≤6∧M.pats.length≤12∧isNm M.name=true∧(M.name == kernelName)=false:=by
 rcases chkMod_cases M with ⟨_,e⟩ | ⟨g1,⟨_,e⟩ | ⟨g2,⟨_,e⟩ | ⟨_,⟨_,e⟩ | ⟨_,t1,t2,t3,t4,⟨_,e⟩ | ⟨_,⟨_,e⟩ | ⟨_,⟨n,e⟩ | ⟨h7,_⟩⟩⟩⟩⟩⟩⟩
 ·omega
 ·omega
 ·omega
 ·omega
 ·omega
 ·omega
 ·exact absurd (e ▸ h) n
 ·exact ⟨chkExps_pos h7,t1,t2,t3,t4,g1,g2⟩
theorem chkKer_zero {k:Ker} (h:ZaS k=0):k.exps.length≤8∧∀ e∈k.exps,isNm e.name=true∧0≤e.pos∧e.pos<4096:=by
 unfold ZaS at h
 split at h
 ·omega
 ·split at h
  ·omega
  ·exact ⟨by omega,chkExps_pos h⟩
theorem chkPls_zero:∀ {l:List Plc},chkPls l=0→∀ p∈l,Zac p.mod=0∧0≤p.first∧p.first≤15
 | [],_,p,hp=>by simp at hp
 | x::l,h,p,hp=>by
  unfold chkPls at h
  by_cases h0:Zac x.mod=0
  ·rw [if_neg (by omega)] at h
   cases hb:betw x.first 0 15
   ·rw [hb,if_pos rfl] at h;omega
   ·rw [hb,if_neg (by decide)] at h
    rcases List.mem_cons.1 hp with rfl | hp
    ·have:=Zcv.1 hb
     exact ⟨h0,this.1,this.2⟩
    ·exact chkPls_zero h p hp
  ·rw [if_pos h0] at h
   exact absurd h h0
theorem chkFind_zero {k:Ker} {l:List Plc} (h:ZaQ k l=0):ZaS k=0∧l.length≤8∧∀ p∈l,Zac p.mod=0∧0≤p.first∧p.first≤15:=by
 unfold ZaQ at h
 by_cases h0:ZaS k=0
 ·rw [if_neg (by omega)] at h
  unfold chkPlaced at h
  split at h
  ·omega
  ·exact ⟨h0,by omega,chkPls_zero h⟩
 ·rw [if_pos h0] at h
  exact absurd h h0
theorem tgt_bd {k:Ker} {l:List Plc} {name:ByteArray} {t:Tgt} (h:ZaQ k l=0) (ht:tgtOf k l name=some t):0≤t.beg∧t.beg≤5056∧t.exps.length≤8∧∀ e∈t.exps,isNm e.name=true∧0≤e.pos∧e.pos<4096:=by
 obtain ⟨hk,hl,hp⟩:=chkFind_zero h;unfold tgtOf at ht
 split at ht
 ·injection ht with ht
  subst ht
  have:=chkKer_zero hk
  exact ⟨Int.le_refl 0,show (0:Int)≤5056 by decide,this.1,this.2⟩
 ·cases hf:l.find? fun p=>p.mod.name == name with
  | none=>rw [hf] at ht;simp at ht
  | some p=>
   rw [hf] at ht;simp at ht;subst ht;obtain ⟨h1,h2,h3⟩:=hp p (List.mem_of_find?_eq_some hf);obtain ⟨h4,h5,h6,_⟩:=Zbl h1;exact ⟨by dsimp only;omega,by dsimp only;omega,by dsimp only;omega,fun e he=>by obtain ⟨g1,g2,g3⟩:=h4 e he;exact ⟨g1,g2,by omega⟩⟩
structure PV where
 mod:Mod
 ve:Value
 vi:Value
 vp:Value
 first:Int
def PV.plc (x:PV):Plc:=⟨x.mod,x.first⟩
def PV.cell (x:PV):Nat→Value
 | 0=>.string x.mod.name
 | 1=>.int .i64 x.mod.major
 | 2=>.int .i64 x.mod.minor
 | 3=>.string x.mod.text
 | 4=>x.ve
 | 5=>x.vi
 | 6=>x.vp
 | _=>.int .i64 x.first
def PV.modV (x:PV):Value:=.agg #[.string x.mod.name,.int .i64 x.mod.major,.int .i64 x.mod.minor,.string x.mod.text,x.ve,x.vi,x.vp]
def PV.val (x:PV):Value:=.agg #[.string x.mod.name,.int .i64 x.mod.major,.int .i64 x.mod.minor,.string x.mod.text,x.ve,x.vi,x.vp,.int .i64 x.first]
def ZbH (n₀:Nat) (W:World) (x:PV):Prop:=Zal 2 Exp.cell n₀ W x.ve x.mod.exps∧Zal 4 Imp.cell n₀ W x.vi x.mod.imps∧Zal 4 Pat.cell n₀ W x.vp x.mod.pats
def Zax (n₀:Nat) (W:World) (v:Value) (l:List PV):Prop:=Zal 8 PV.cell n₀ W v l∧∀ x∈l,ZbH n₀ W x
def Zcd (n₀:Nat) (W:World) (v:Value) (k:Ker):Prop:=∃ ve,v=.agg #[.int .i64 k.major,.int .i64 k.minor,ve]∧Zal 2 Exp.cell n₀ W ve k.exps
def Ker.fits (k:Ker):Prop:=∀ e∈k.exps,e.name.size≤9223372036854775807
theorem ZbH.below {n₀:Nat} {W W':World} {x:PV} (h:ZbH n₀ W x) (hb:Below n₀ W W'):ZbH n₀ W' x:=⟨h.1.below hb,h.2.1.below hb,h.2.2.below hb⟩
theorem ZbH.more {n₀ n₁:Nat} {W:World} {x:PV} (h:ZbH n₀ W x) (hn:n₀≤n₁):ZbH n₁ W x:=⟨h.1.more hn,h.2.1.more hn,h.2.2.more hn⟩
theorem ZbH.isMod {n₀:Nat} {W:World} {x:PV} (h:ZbH n₀ W x):Zbf n₀ W x.modV x.mod:=⟨x.ve,x.vi,x.vp,rfl,h.1,h.2.1,h.2.2⟩
theorem Zax.below {n₀:Nat} {W W':World} {v:Value} {l:List PV} (h:Zax n₀ W v l) (hb:Below n₀ W W'):Zax n₀ W' v l:=⟨h.1.below hb,fun x hx=>(h.2 x hx).below hb⟩
theorem Zax.more {n₀ n₁:Nat} {W:World} {v:Value} {l:List PV} (h:Zax n₀ W v l) (hn:n₀≤n₁):Zax n₁ W v l:=⟨h.1.more hn,fun x hx=>(h.2 x hx).more hn⟩
theorem Zcd.below {n₀:Nat} {W W':World} {v:Value} {k:Ker} (h:Zcd n₀ W v k) (hb:Below n₀ W W'):Zcd n₀ W' v k:=by
 obtain ⟨ve,e,h⟩:=h;exact ⟨ve,e,h.below hb⟩
theorem Zcd.more {n₀ n₁:Nat} {W:World} {v:Value} {k:Ker} (h:Zcd n₀ W v k) (hn:n₀≤n₁):Zcd n₁ W v k:=by
 obtain ⟨ve,e,h⟩:=h;exact ⟨ve,e,h.more hn⟩
end Go.Proofs.YtlpnfbpgnfappaaGreat
namespace Go.Proofs.YtlpnfbpgnfappaaGreat
open Go.RowKit Go.PlainAid Go.Lib
def Za (W:World) (B:Nat) (t:TypeId) (cs:Array Value):Prop:=W.heap[B]?=some (.cells cs t (0,0))
theorem Za.lt {W:World} {B:Nat} {t:TypeId} {cs:Array Value} (h:Za W B t cs):B<W.heap.size:=(Array.getElem?_eq_some_iff.1 h).1
theorem Za.cell {W:World} {B:Nat} {t:TypeId} {cs:Array Value} (h:Za W B t cs) (i:Nat):W.cell? ⟨B,i,none⟩=cs[i]?:=by
 simp [World.cell?,show W.heap[B]?=_ from h]
theorem Za.frozen {W:World} {B:Nat} {t:TypeId} {cs:Array Value} (h:Za W B t cs) (i:Nat):W.frozen? ⟨B,i,none⟩=false:=by
 simp [World.frozen?,show W.heap[B]?=_ from h]
theorem Za.new (W:World) (t:TypeId) (cs:Array Value):Za (W.alloc (.cells cs t)) W.heap.size t cs:=World.alloc_heap_new W _
theorem Za.kept {W W':World} {row:Option Nat} {B:Nat} {t:TypeId} {cs:Array Value} (h:Za W B t cs) (hg:W.grownBy W' row) (hne:some B≠row):Za W' B t cs:=(hg.block B h.lt hne).trans h
theorem Za.below {W W':World} {B n:Nat} {t:TypeId} {cs:Array Value} (h:Za W B t cs) (hb:Below n W W') (hn:B<n):Za W' B t cs:=(hb.block B hn).trans h
theorem Za.set {W:World} {B:Nat} {t:TypeId} {cs:Array Value} (i:Nat) (v:Value) (h:Za W B t cs):Za (W.setCell ⟨B,i,none⟩ v) B t (cs.setIfInBounds i v):=by
 obtain ⟨hlt,hk⟩:=Array.getElem?_eq_some_iff.1 h
 show (W.heap.modify B _)[B]?=_
 rw [Array.getElem?_eq_getElem (by rw [Array.size_modify];exact hlt),Array.getElem_modify_self,hk]
 rfl
theorem Zai (W:World) (b i:Nat) (v:Value):W.grownBy (W.setCell ⟨b,i,none⟩ v) (some b):=
 ⟨rfl,rfl,rfl,by simp [World.setCell],fun k _ hne=>Below.heap_setCell W ⟨b,i,none⟩ v k (fun e=>hne (by rw [e]))⟩
theorem Zab {P:Program} {fn:Func} {p u:Tmp} {ty:TypeId} (h:fn.results=#[.cell p ty,.tmp u]) (tmps:Array Value) (w:World) (g:Nat) (t:TypeId) (cs:Array Value) (fr:Nat × Nat) (d:TypeDesc)
  (hp:tmps.getD p undef=.pointer (some ⟨g,0,none⟩)) (hg:w.heap[g]?=some (.cells cs t fr))
  (hu:P.underlying ty=some d) (hd:(match d with | .struct _ | .array _ _=>true | _=>false)=true) (hi:(P.info? ty).map (·.size)=some cs.size) :
  (results fn tmps).run P w=.ok (.tuple #[.agg cs,tmps.getD u undef]) w:=by
 rw [results_cell_tmp h,hp];simp [asAddr,run_loadVar_row w g t ty cs fr d hg hu hd hi]
def expC (e:Exp):List Value:=[.string e.name,.int .i64 e.pos]
def impC (i:Imp):List Value:=[.string i.mod,.string i.name,.int .i64 i.major,.int .i64 i.minor]
def patC (p:Pat):List Value:=[.int .i64 p.kind,.int .i64 p.pos,.int .i64 p.sym,.int .i64 p.add]
theorem flat_at {α:Type} {C:α→List Value} {sz:Nat} (hC:∀ x,(C x).length=sz):∀ (l:List α) (j:Nat) (x:α) (i:Nat),l[j]?=some x→i<sz→(l.flatMap C)[j*sz+i]?=(C x)[i]?
 | [],j,x,i,h,_=>by simp at h
 | y::l,0,x,i,h,hi=>by
  obtain rfl:y=x:=by simpa using h
  rw [List.flatMap_cons,Nat.zero_mul,Nat.zero_add,List.getElem?_append_left (by rw [hC];exact hi)]
 | y::l,j+1,x,i,h,hi=>by
  rw [List.flatMap_cons,List.getElem?_append_right (by rw [hC,Nat.succ_mul];omega),hC]
  have:=flat_at hC l j x i (by simpa using h) hi
  rwa [show (j+1)*sz+i-sz=j*sz+i by rw [Nat.succ_mul];omega]
theorem ZbQ {α:Type} {C:α→List Value} {cells:α→Nat→Value} {sz:Nat} (hC:∀ x,(C x).length=sz) (hc:∀ x i,i<sz→(C x)[i]?=some (cells x i)) {W:World} {B:Nat} {t:TypeId} {cs:Array Value} (h:Za W B t cs)
  (l:List α) (hl:l.length≤255) (cap:Nat) (hcs:cs.toList=l.flatMap C):Zal sz cells W.heap.size W (.slice (some ⟨B,0,none⟩) l.length cap) l:=by
 refine ⟨_,cap,rfl,by omega,.inr ⟨B,0,rfl,h.lt,fun j x hj i hi=>?_⟩⟩;rw [Nat.zero_add,h.cell];have h1:=flat_at hC l j x i hj hi;rw [hc x i hi,← hcs] at h1
 simpa using h1
theorem expC_at (x:Exp) (i:Nat) (hi:i<2):(expC x)[i]?=some (Exp.cell x i):=by
 have:i=0∨i=1:=by omega
 rcases this with rfl | rfl <;> rfl
theorem impC_at (x:Imp) (i:Nat) (hi:i<4):(impC x)[i]?=some (Imp.cell x i):=by
 have:i=0∨i=1∨i=2∨i=3:=by omega
 rcases this with rfl | rfl | rfl | rfl <;> rfl
theorem patC_at (x:Pat) (i:Nat) (hi:i<4):(patC x)[i]?=some (Pat.cell x i):=by
 have:i=0∨i=1∨i=2∨i=3:=by omega
 rcases this with rfl | rfl | rfl | rfl <;> rfl
theorem ZaC {W:World} {B:Nat} {t:TypeId} {a b c d:Value} (h:Za W B t #[a,b,c,d]):W.cell? ⟨B,0,none⟩=some a∧W.cell? ⟨B,1,none⟩=some b∧W.cell? ⟨B,2,none⟩=some c∧W.cell? ⟨B,3,none⟩=some d:=⟨h.cell 0,h.cell 1,h.cell 2,h.cell 3⟩
theorem Zbx {W:World} {B:Nat} {t:TypeId} {a b c d e f g:Value} (h:Za W B t #[a,b,c,d,e,f,g]):W.cell? ⟨B,0,none⟩=some a∧W.cell? ⟨B,1,none⟩=some b∧W.cell? ⟨B,2,none⟩=some c∧W.cell? ⟨B,3,none⟩=some d∧W.cell? ⟨B,4,none⟩=some e∧W.cell? ⟨B,5,none⟩=some f∧W.cell? ⟨B,6,none⟩=some g:=⟨h.cell 0,h.cell 1,h.cell 2,h.cell 3,h.cell 4,h.cell 5,h.cell 6⟩
theorem cells8 {W:World} {B:Nat} {t:TypeId} {a b c d e f g i:Value} (h:Za W B t #[a,b,c,d,e,f,g,i]):W.cell? ⟨B,0,none⟩=some a∧W.cell? ⟨B,1,none⟩=some b∧W.cell? ⟨B,2,none⟩=some c∧W.cell? ⟨B,3,none⟩=some d∧W.cell? ⟨B,4,none⟩=some e∧W.cell? ⟨B,5,none⟩=some f∧W.cell? ⟨B,6,none⟩=some g∧W.cell? ⟨B,7,none⟩=some i:=⟨h.cell 0,h.cell 1,h.cell 2,h.cell 3,h.cell 4,h.cell 5,h.cell 6,h.cell 7⟩
end Go.Proofs.YtlpnfbpgnfappaaGreat
namespace Go.Proofs.YtlpnfbpgnfappaaGreat
open Go.RowKit Go.PlainAid
def ZbF (x:Int) (_:Nat):Value:=.int .i64 x
def intC (x:Int):List Value:=[.int .i64 x]
theorem own_below {W W':World} {base:Nat} {e:TypeId} {size:Nat} {v:Value} {n:Nat} {xs:List Value} (h:W.ownsRow base e size v n xs) (hb:Below W.heap.size W W'):W'.ownsRow base e size v n xs:=by
 obtain ⟨h1,⟨rfl,rfl⟩ | ⟨g,cap,cur,rfl,hg,hc,hr⟩⟩:=h
 ·exact ⟨h1,.inl ⟨rfl,rfl⟩⟩
 ·exact ⟨h1,.inr ⟨g,cap,cur,rfl,hg,(hb.block g (Array.getElem?_eq_some_iff.1 hc).1).trans hc,hr⟩⟩
theorem ZaP {W:World} {base:Nat} {e:TypeId} {size:Nat} {v:Value} {n:Nat} {xs:List Value} (h:W.ownsRow base e size v n xs):∀ k,v.ownBlock=some k→base≤k:=by
 intro k hk
 rcases h.2 with ⟨rfl,_⟩ | ⟨g,cap,cur,rfl,hg,_⟩
 ·cases hk
 ·simp [Value.ownBlock] at hk
  omega
theorem Zae {W:World} {base:Nat} {e:TypeId} {size:Nat} {v:Value} {n:Nat} {xs:List Value} (h:W.ownsRow base e size v n xs):∃ a cap,v=.slice a n cap:=by
 rcases h.2 with ⟨rfl,rfl⟩ | ⟨g,cap,cur,rfl,_⟩
 ·exact ⟨none,0,rfl⟩
 ·exact ⟨_,cap,rfl⟩
theorem own_ints {W:World} {base:Nat} {v:Value} {l:List Int} (h:W.ownsRow base 3 1 v l.length (l.flatMap intC)) (hl:l.length≤255):Zal 1 ZbF W.heap.size W v l:=by
 rcases h.2 with ⟨rfl,hn⟩ | ⟨g,cap,cur,rfl,hg,hb,hcap,hm,hsz,htk⟩
 ·obtain rfl:l=[]:=List.length_eq_zero_iff.1 hn
  exact ⟨none,0,rfl,by simp,.inl rfl⟩
 ·refine ⟨_,cap,rfl,by omega,.inr ⟨g,0,rfl,(Array.getElem?_eq_some_iff.1 hb).1,fun j x hj i hi=>?_⟩⟩
  have h1:=flat_at (C:=intC) (sz:=1) (fun _=>rfl) l j x i hj hi;obtain rfl:i=0:=by omega
  have h2:(l.flatMap intC)[j*1+0]?=some (.int .i64 x):=h1
  have:=h.cells (g:=g) rfl (j*1+0) _ h2
  have hadd:(⟨g,0,none⟩:Addr).add (j*1+0)=⟨g,j*1+0,none⟩:=by unfold Addr.add;split <;> simp_all
  rw [hadd] at this;rw [Nat.zero_add];exact this
theorem infoInt:(Tryz.prog.info? 3).map (fun i=>(i.zero,i.size,i.bytes))=some (some (.int .i64 0),1,8):=by kernel_rfl
theorem infoInt_parts:∃ i,Tryz.prog.info? 3=some i∧i.zero=some (.int .i64 0)∧i.size=1∧i.bytes=8:=by
 have h:=infoInt
 cases hi:Tryz.prog.info? 3 with
 | none=>rw [hi] at h;cases h
 | some i=>
  rw [hi] at h;simp at h;exact ⟨i,rfl,h.1,h.2.1,h.2.2⟩
theorem intC_at (x:Int) (i:Nat) (hi:i<1):(intC x)[i]?=some (ZbF x i):=by
 obtain rfl:i=0:=by omega
 rfl
theorem ZbX {α:Type} {C:α→List Value} {cells:α→Nat→Value} {sz:Nat} (hC:∀ x,(C x).length=sz) (hc:∀ x i,i<sz→(C x)[i]?=some (cells x i)) {W:World} {base:Nat} {e:TypeId} {v:Value} {l:List α}
  (h:W.ownsRow base e sz v l.length (l.flatMap C)) (hl:l.length≤9223372036854775807):Zal sz cells W.heap.size W v l:=by
 rcases h.2 with ⟨rfl,hn⟩ | ⟨g,cap,cur,rfl,hg,hb,hcap,hm,hsz,htk⟩
 ·obtain rfl:l=[]:=List.length_eq_zero_iff.1 hn
  exact ⟨none,0,rfl,by simp,.inl rfl⟩
 ·refine ⟨_,cap,rfl,hl,.inr ⟨g,0,rfl,(Array.getElem?_eq_some_iff.1 hb).1,fun j x hj i hi=>?_⟩⟩
  have h1:=flat_at hC l j x i hj hi;rw [hc x i hi] at h1
  have:=h.cells (g:=g) rfl (j*sz+i) _ h1
  have hadd:(⟨g,0,none⟩:Addr).add (j*sz+i)=⟨g,j*sz+i,none⟩:=by unfold Addr.add;split <;> simp_all
  rw [hadd] at this;rw [Nat.zero_add];exact this
theorem Zca {α:Type} {C:α→List Value} {sz:Nat} (hC:∀ x,(C x).length=sz):∀ l:List α,(l.flatMap C).length=l.length*sz
 | []=>by simp
 | x::l=>by rw [List.flatMap_cons,List.length_append,Zca hC l,hC,List.length_cons,Nat.succ_mul];omega
theorem news_row {α:Type} {C:α→List Value} {cells:α→Nat→Value} {sz:Nat} (h0:0<sz) (hC:∀ x,(C x).length=sz) (hc:∀ x i,i<sz→(C x)[i]?=some (cells x i)) {W:World} {b off:Nat} {l:List α}
  (h:∀ j x,l[j]?=some x→∀ i,i<sz→W.cell? ⟨b,off+j*sz+i,none⟩=some (cells x i)):∀ j u,(l.flatMap C)[j]?=some u→W.cell? ((⟨b,off,none⟩:Addr).add j)=some u:=by
 intro j u hu;have hj:j<l.length*sz:=by
  have:=(List.getElem?_eq_some_iff.1 hu).1
  rwa [Zca hC] at this
 have hq:j / sz<l.length:=(Nat.div_lt_iff_lt_mul h0).2 hj;obtain ⟨x,hx⟩:∃ x,l[j / sz]?=some x:=⟨_,List.getElem?_eq_getElem hq⟩;have hr:j % sz<sz:=Nat.mod_lt _ h0;have e:j / sz*sz+j % sz=j:=by rw [Nat.mul_comm];exact Nat.div_add_mod j sz
 have h1:=flat_at hC l (j / sz) x (j % sz) hx hr;rw [hc x _ hr,e,hu] at h1;have h2:=h (j / sz) x hx (j % sz) hr;rw [Nat.add_assoc,e,← h1] at h2;have hadd:(⟨b,off,none⟩:Addr).add j=⟨b,off+j,none⟩:=by unfold Addr.add;split <;> simp_all
 rw [hadd];exact h2
theorem own_empty {W:World} {base:Nat} {e:TypeId} (hb:base≤W.heap.size) {sz:Nat}:(W.alloc (.cells #[] e)).ownsRow base e sz (.slice (some ⟨W.heap.size,0,none⟩) 0 0) 0 []:=
 ⟨by simp,.inr ⟨W.heap.size,0,#[],rfl,hb,Za.new W e #[],Nat.le_refl _,Nat.zero_le _,by simp,by simp⟩⟩
theorem own_kind {W:World} {base:Nat} {e:TypeId} {size:Nat} {v:Value} {n:Nat} {xs:List Value} (h:W.ownsRow base e size v n xs):∀ k,v.ownBlock=some k→∃ cur fr,W.heap[k]?=some (.cells cur e fr):=by
 intro k hk
 rcases h.2 with ⟨rfl,_⟩ | ⟨g,cap,cur,rfl,_,hc,_⟩
 ·cases hk
 ·simp [Value.ownBlock] at hk
  subst hk;exact ⟨cur,_,hc⟩
theorem own_ne_own {W:World} {b1 b2:Nat} {e1 e2:TypeId} {s1 s2:Nat} {v1 v2:Value} {n1 n2:Nat} {x1 x2:List Value} (h1:W.ownsRow b1 e1 s1 v1 n1 x1) (h2:W.ownsRow b2 e2 s2 v2 n2 x2) (he:e1≠e2):v1.ownBlock=none∨v1.ownBlock≠v2.ownBlock:=by
 cases hv:v1.ownBlock with
 | none=>exact .inl rfl
 | some k=>
  refine .inr fun e=>?_;obtain ⟨c1,f1,hc1⟩:=own_kind h1 k hv;obtain ⟨c2,f2,hc2⟩:=own_kind h2 k e.symm;rw [hc1] at hc2;injection hc2 with hc2;injection hc2 with _ h;exact he h
theorem Zao {W:World} {b B:Nat} {e t:TypeId} {s:Nat} {v:Value} {n:Nat} {xs:List Value} {cs:Array Value} (h1:W.ownsRow b e s v n xs) (hc:Za W B t cs) (he:e≠t):v.ownBlock≠some B:=by
 intro hv;obtain ⟨c1,f1,hc1⟩:=own_kind h1 B hv;rw [show W.heap[B]?=_ from hc] at hc1;injection hc1 with hc1;injection hc1 with _ h;exact he h.symm
theorem ZaE {W:World} {b B:Nat} {e t:TypeId} {s:Nat} {v:Value} {n:Nat} {xs:List Value} {cs:Array Value} (h:W.ownsRow b e s v n xs) (hc:Za W B t cs) (he:e≠t) (i:Nat) (u:Value):(W.setCell ⟨B,i,none⟩ u).ownsRow b e s v n xs:=
 h.kept (Zai W B i u) (.inr (Zao h hc he))
theorem ZaN {W W':World} {b1 b2:Nat} {e1 e2:TypeId} {s1 s2:Nat} {v1 v2:Value} {n1 n2:Nat} {x1 x2:List Value} (h1:W.ownsRow b1 e1 s1 v1 n1 x1) (h2:W.ownsRow b2 e2 s2 v2 n2 x2) (he:e1≠e2) (hg:W.grownBy W' v2.ownBlock):W'.ownsRow b1 e1 s1 v1 n1 x1:=
 h1.kept hg (own_ne_own h1 h2 he)
theorem ZaB {W W':World} {b B:Nat} {e t:TypeId} {s:Nat} {v:Value} {n:Nat} {xs:List Value} {cs:Array Value} (hc:Za W B t cs) (h:W.ownsRow b e s v n xs) (he:e≠t) (hg:W.grownBy W' v.ownBlock):Za W' B t cs:=
 hc.kept hg (fun e'=>Zao h hc he e'.symm)
theorem ZbR {W:World} {base b:Nat} {e:TypeId} {size:Nat} {v:Value} {n:Nat} {xs:List Value} (h:W.ownsRow base e size v n xs) (hb:b≤base):W.ownsRow b e size v n xs:=
 ⟨h.1,h.2.imp id (fun ⟨g,cap,cur,h1,h2,h3⟩=>⟨g,cap,cur,h1,Nat.le_trans hb h2,h3⟩)⟩
end Go.Proofs.YtlpnfbpgnfappaaGreat
namespace Go.Proofs.YtlpnfbpgnfappaaGreat
section
variable {P : Program} {ops : Array Oper} {Q : Exit → Act → World → Prop}
end
end Go.Proofs.YtlpnfbpgnfappaaGreat
namespace Go.Proofs.YtlpnfbpgnfappaaGreat
open Go.RowKit Go.PlainAid Go.Lib
theorem op_append_row {α:Type} {C:α→List Value} {cells:α→Nat→Value} {sz:Nat} (h0:0<sz) (hC:∀ x,(C x).length=sz) (hc:∀ x i,i<sz→(C x)[i]?=some (cells x i)) {o:Oper} {a:Act} {K:Act→World→Prop} {Q:Exit→Act→World→Prop} {w:World}
  (s x:Operand) (t:TypeId) (ho:o.op=.call { callee:=.builtin .append,args:=#[s,x],argTypes:=#[t,t] })
  (base:Nat) (e:TypeId) (i:TypeInfo) (z:Value) (bytes:Nat) (ht:Tryz.prog.underlying t=some (.slice e)) (hi:Tryz.prog.info? e=some i) (hz:i.zero=some z) (hsize:i.size=sz) (hby:i.bytes=bytes) (hzs:z.cells.size=sz)
  (g:Nat) (hs:a.eval s=.slice (some ⟨g,0,none⟩) 0 0) (hown:w.ownsRow base e sz (.slice (some ⟨g,0,none⟩) 0 0) 0 [])
  (xv:Value) (l:List α) (hx:a.eval x=xv) (B:Nat) (hrow:Zal sz cells B w xv l) (h1:∀ u∈l.flatMap C,u.oneCell'=true) (hbytes:l.length*bytes≤140737488355328) (hbase:base≤w.heap.size)
  (h:∀ r w',w'.ownsRow base e sz r l.length (l.flatMap C)→w.grownBy w' (some g)→K (a.put o.dst r) w'):Oper.wp Tryz.prog o a w K Q:=by
 obtain ⟨ax,cx,rfl,hle,hcase⟩:=hrow
 cases ax with
 | none=>
  obtain rfl:l=[]:=by
   rcases hcase with h | ⟨b,off,e,_⟩
   ·exact h
   ·cases e
  have hr:=run_append_nothing (P:=Tryz.prog) w t t o.type e i ht hi (some ⟨g,0,none⟩) 0 0 (Nat.le_refl _) (.slice none 0 cx) (Src.ofNil _ ht cx);unfold Oper.wp execOp;simp only [ho,resolve,invoke,builtin,Sem.run_bind,Sem.run_pure,Result.andThen_ok,List.map_toArray,List.map_cons,List.map_nil,hs,hx,hr,List.length_nil];exact h _ _ hown ⟨rfl,rfl,rfl,Nat.le_refl _,fun _ _ _=>rfl⟩
 | some ad=>
  have hnews:∀ j u,(l.flatMap C)[j]?=some u→w.cell? (ad.add j)=some u:=by
   rcases hcase with rfl | ⟨b,off,e,_,hcl⟩
   ·intro j u hu;simp at hu
   ·obtain rfl:=Option.some.inj e
    exact news_row h0 hC hc hcl
  obtain ⟨v',w',hr,h2,h3,_,_⟩:=run_append_own_at (P:=Tryz.prog) w base t o.type e i z sz bytes ht hi hz hsize hby hzs h0 _ 0 [] hown ad l.length cx (l.flatMap C) (Zca hC l) hnews h1 (by unfold maxLen;omega) (by rw [Nat.zero_add];exact hbytes) hbase;rw [Nat.zero_add,List.nil_append] at h2;unfold Oper.wp execOp;simp only [ho,resolve,invoke,builtin,Sem.run_bind,Sem.run_pure,Result.andThen_ok,List.map_toArray,List.map_cons,List.map_nil,hs,hx,hr];exact h _ _ h2 h3
end Go.Proofs.YtlpnfbpgnfappaaGreat
namespace Go.Proofs.YtlpnfbpgnfappaaGreat
open Go.RowKit Go.Shelf
attribute [local go_sem] Oper.semAt_some
def ZaZ (len at' bytes:Int):Int:=if bytes<1∨4<bytes then 7 else if at'<0∨len-bytes<at' then 3 else 0
theorem wrongPlace_any (len at' bytes:Int) (w:World) (h0:0≤len) (h1:len≤140737488351232) :
  Calls Tryz.prog 187 #[.int .i64 len,.int .i64 at',.int .i64 bytes] w fun e w'=>e=.returned (.int .i64 (ZaZ len at' bytes))∧w'=w:=by
 by_cases a:bytes<1
 ·go_enter Tryz.func187,Tryz.ntmps187
  go_wp2;go_ret;exact ⟨by simp [ZaZ,a],rfl⟩
 by_cases b:4<bytes
 ·go_enter Tryz.func187,Tryz.ntmps187
  go_wp2;go_ret;exact ⟨by simp [ZaZ,b],rfl⟩
 by_cases c:at'<0
 ·go_enter Tryz.func187,Tryz.ntmps187
  go_wp2;go_ret;exact ⟨by simp [ZaZ,a,b,c],rfl⟩
 by_cases d:len-bytes<at'
 ·go_enter Tryz.func187,Tryz.ntmps187
  go_wp2;go_ret;exact ⟨by simp [ZaZ,a,b,d],rfl⟩
 ·go_enter Tryz.func187,Tryz.ntmps187
  go_wp2;go_ret;have e:ZaZ len at' bytes=0:=by unfold ZaZ;rw [if_neg (by omega),if_neg (by omega)]
  exact ⟨by rw [e];rfl,rfl⟩
theorem bytesOf_in (F:Fence) (n:Nat) (hF:F.fn 188) (hro:F.round=none) (at' bytes:Int) (w:World) :
  CallsIn F n Tryz.prog 188 #[.int .i64 at',.int .i64 bytes] w fun e w'=>
   e=.returned (.func (.func 214) #[] #[.pointer (some ⟨w.heap.size+1,0,none⟩),.pointer (some ⟨w.heap.size,0,none⟩)])∧
   w'=(w.alloc (.cells #[.int .i64 at'] 3)).alloc (.cells #[.int .i64 bytes] 3):=by
 refine callsIn_of_wp Tryz.func188 rfl hF ?_ hro;simp only [Tryz.ntmps188,List.size_toArray,List.length_cons,List.length_nil,Nat.reduceAdd,Nat.reduceSub,Array.replicate_succ,Array.replicate_zero,List.push_toArray,List.append_toArray,List.nil_append,List.cons_append]
 gi_wp2
 go_ret;exact ⟨rfl,rfl⟩
def ZbZ (Ba Bb:Nat) (W W':World):Prop:=W'.cell? ⟨Ba,0,none⟩=W.cell? ⟨Ba,0,none⟩∧W'.cell? ⟨Bb,0,none⟩=W.cell? ⟨Bb,0,none⟩
theorem ZbZ.refl (Ba Bb:Nat) (W:World):ZbZ Ba Bb W W:=⟨rfl,rfl⟩
theorem ZbZ.trans {Ba Bb:Nat} {A B C:World} (h:ZbZ Ba Bb A B) (k:ZbZ Ba Bb B C):ZbZ Ba Bb A C:=⟨k.1.trans h.1,k.2.trans h.2⟩
theorem bytesOf1_in (F:Fence) (n:Nat) (hF:F.fn 214) (hro:F.round=none) (hn:1≤n) (l Ba Bb at' m:Nat) (hm:m≤4) (ha:at'≤140737488351232) (J Jx:List (Fin m)→World→Prop)
  (hY:∀ pre x W,J pre W→pre.length<m→YieldAt F (n-1) Tryz.prog l #[.int .i64 ((at':Int)+(x:Fin m).1),.int .i64 (8*((x:Fin m).1:Int))] W fun e W'=>
   (e=.returned (.bool true)∧J (pre++[x]) W'∧ZbZ Ba Bb W W')∨(e=.returned (.bool false)∧Jx (pre++[x]) W'))
  (W:World) (hA:W.cell? ⟨Ba,0,none⟩=some (.int .i64 at')) (hB:W.cell? ⟨Bb,0,none⟩=some (.int .i64 m)) (h0:J [] W) :
  CallsIn F n Tryz.prog 214 #[.func (.yield l) #[] #[],.pointer (some ⟨Bb,0,none⟩),.pointer (some ⟨Ba,0,none⟩)] W fun e W'=>(∃ v,e=.returned v)∧
   ((∃ ys:List (Fin m),ys.map (·.1)=List.range m∧J ys W')∨(∃ pre,Jx pre W')):=by
 refine callsIn_of_wp Tryz.func214 rfl hF ?_ hro;simp only [Tryz.ntmps214,List.size_toArray,List.length_cons,List.length_nil,Nat.reduceAdd,Nat.reduceSub,Array.replicate_succ,Array.replicate_zero,List.push_toArray,List.append_toArray,List.nil_append,List.cons_append]
 gi_wp2
 gi_loopw [6] (fun i wr=>∃ k:Nat,k≤m∧i=.int .i64 k∧(∃ ys:List (Fin m),ys.map (·.1)=List.range k∧J ys wr)∧ZbZ Ba Bb W wr)
  (fun i _=>m-(intOf i).toNat)
 case atStart=>exact ⟨0,Nat.zero_le _,rfl,⟨[],rfl,h0⟩,ZbZ.refl _ _ _⟩
 case round=>
  obtain ⟨k,hk,rfl,⟨ys,hys,hJs⟩,hnx⟩:=hrel;have hcA:wr.cell? ⟨Ba,0,none⟩=some (.int .i64 at'):=hnx.1.trans hA;have hYS:Hid (ys.map (·.1)=List.range k):=hys;have hylen:ys.length=k:=by have:=congrArg List.length hys;simpa using this
  clear hys
  by_cases hlt:k<m
  ·obtain ⟨fn,tmps,assign,body,hy,hR⟩:=hY ys ⟨k,hlt⟩ wr hJs (by omega)
   dsimp only at hy;clear hylen
   gi_wp2
   refine hR.mono ?_;rintro e W3 (⟨rfl,hJ3,hk3⟩ | ⟨rfl,hJx3⟩)
   ·gi_wp2
    go_roundw
    case rel=>exact ⟨k+1,by omega,by simp,⟨ys++[⟨k,hlt⟩],by rw [List.map_append,hYS.out,List.range_succ];rfl,hJ3⟩,hnx.trans hk3⟩
    case measure=>simp [intOf];omega
   ·gi_wp2
    refine bodyPost_ret (results_none rfl _ _ _) rfl ?_;exact ⟨⟨_,rfl⟩,.inr ⟨_,hJx3⟩⟩
  ·obtain rfl:k=m:=by omega
   clear hylen
   gi_wp2
   go_end0
   exact ⟨⟨_,rfl⟩,.inl ⟨ys,hYS.out,hJs⟩⟩
end Go.Proofs.YtlpnfbpgnfappaaGreat
namespace Go.Proofs.YtlpnfbpgnfappaaGreat
open Go.RowKit Go.Shelf Go.PlainAid
attribute [local go_sem] Oper.semAt_some
theorem bytesOf_stops (F:Fence) (n:Nat) (hF:F.fn 214) (hro:F.round=none) (hn:1≤n) (Ba Bb at' m:Nat) (hm:m≤4) (ha:at'≤140737488351232) (w:World) (hBa:Ba<w.heap.size) (hBb:Bb<w.heap.size)
  (hA:w.cell? ⟨Ba,0,none⟩=some (.int .i64 at')) (hB:w.cell? ⟨Bb,0,none⟩=some (.int .i64 m)) :
  SeqStopsK F n Tryz.prog 214 #[.pointer (some ⟨Bb,0,none⟩),.pointer (some ⟨Ba,0,none⟩)] (fun x:Fin m=>#[Value.int .i64 ((at':Int)+x.1),Value.int .i64 (8*(x.1:Int))]) (ZbZ Ba Bb)
   (fun ys=>ys.map (·.1)=List.range m) (fun _=>True) m w:=fun l J Jx W hW _ _ hY h0=>by
 refine (bytesOf1_in F n hF hro hn l Ba Bb at' m hm ha J Jx hY W ((hW.cell (p:=⟨Ba,0,none⟩) hBa).trans hA) ((hW.cell (p:=⟨Bb,0,none⟩) hBb).trans hB) h0).mono ?_;rintro e W' ⟨he,⟨ys,hy,hj⟩ | ⟨pre,hj⟩⟩
 ·exact ⟨he,.inl ⟨ys,hy,hj⟩⟩
 ·exact ⟨he,.inr ⟨pre,trivial,hj⟩⟩
theorem keepsTwo_b {Ba Bb:Nat} {w:World} (ha:Ba<w.heap.size) (hb:Bb<w.heap.size) (W:World) (l:Nat) (o o':Obj) (hl:w.heap.size≤l) (h:W.heap[l]?=some o) (c:o.isCells=false) (d:o.isWalk=false):ZbZ Ba Bb W (W.putObj l o'):=
 have hk:=belowK_b (Nat.le_refl _) W l o o' hl h c d
 ⟨hk.cell (p:=⟨Ba,0,none⟩) ha,hk.cell (p:=⟨Bb,0,none⟩) hb⟩
theorem keepsTwo_set {Ba Bb B o:Nat} (ha:Ba≠B) (hb:Bb≠B) (W:World) (v:Value):ZbZ Ba Bb W (W.setCell ⟨B,o,none⟩ v).drew:=
 ⟨World.cell?_of_block (w:=W) (Below.heap_setCell _ _ _ _ ha),World.cell?_of_block (w:=W) (Below.heap_setCell _ _ _ _ hb)⟩
theorem get_ok_in (s:ByteArray) (at' m:Nat) (w:World)
  (hs:s.size≤140737488351232) (hm1:1≤m) (hm:m≤4) (ha:at'+m≤s.size) :
  CallsIn Fence.wide 8 Tryz.prog 168 #[.string s,.int .i64 at',.int .i64 m] w fun e w'=>
   e=.returned (.tuple #[.int .i64 (getN s at' m),.int .i64 0])∧Below w.heap.size w w':=by
 have hwr:ZaZ s.size at' m=0:=by unfold ZaZ;rw [if_neg (by omega),if_neg (by omega)]
 refine callsIn_of_wp_marks Tryz.func168 rfl trivial ?_ rfl;simp only [Tryz.ntmps168,List.size_toArray,List.length_cons,List.length_nil,Nat.reduceAdd,Nat.reduceSub,Array.replicate_succ,Array.replicate_zero,List.push_toArray,List.append_toArray,List.nil_append,List.cons_append]
 gi_wp2_with (first
  | (refine ⟨trivial,?_⟩;gi_at_call 187;refine (callsIn_wide.2 (wrongPlace_any _ _ _ _ (by omega) (by omega))).mono ?_;rw [hwr];rintro e w' ⟨rfl,rfl⟩)
  | (refine ⟨trivial,?_⟩;gi_at_call 188;refine (bytesOf_in Fence.wide _ trivial rfl _ _ _).mono ?_;rintro e w' ⟨rfl,rfl⟩))
 have bs:=(((Boxed.new w 9 (.string s)).alloc (.cells #[.int .i64 0] 3)).alloc (.cells #[.int .i64 at'] 3)).alloc (.cells #[.int .i64 m] 3);have bn:=((Boxed.new (w.alloc (.cells #[.string s] 9)) 3 (.int .i64 0)).alloc (.cells #[.int .i64 at'] 3)).alloc (.cells #[.int .i64 m] 3);have ba:=(Boxed.new ((w.alloc (.cells #[.string s] 9)).alloc (.cells #[.int .i64 0] 3)) 3 (.int .i64 at')).alloc (.cells #[.int .i64 m] 3);have bm:=Boxed.new (((w.alloc (.cells #[.string s] 9)).alloc (.cells #[.int .i64 0] 3)).alloc (.cells #[.int .i64 at'] 3)) 3 (.int .i64 m);simp only [World.size_alloc] at bn ba bm;have hB0:Below w.heap.size w ((((w.alloc (.cells #[.string s] 9)).alloc (.cells #[.int .i64 0] 3)).alloc (.cells #[.int .i64 at'] 3)).alloc (.cells #[.int .i64 m] 3)):=
  ((((Below.refl _ w).alloc (Nat.le_refl _) _).alloc (by simp) _).alloc (by simp;omega) _).alloc (by simp;omega) _
 refine wpIn_rangeFunc_ownF rfl (by omega) (gf:=214) (lb:=#[.pointer (some ⟨w.heap.size+1+1+1,0,none⟩),.pointer (some ⟨w.heap.size+1+1,0,none⟩)]) rfl trivial (enters_of Tryz.func214 (by kernel_rfl) rfl)
  (bytesOf_stops Fence.wide _ trivial rfl (by omega) (w.heap.size+1+1) (w.heap.size+1+1+1) at' m hm (by omega) _ (by simp) (by simp) ba.cell bm.cell) ZbZ.trans (keepsTwo_b (by simp) (by simp)) (Below.refl _ _) (fun _=>rfl)
  (fun pre W=>(Boxed W w.heap.size 9 (.string s)∧Boxed W (w.heap.size+1) 3 (.int .i64 (getFold s at' (pre.map (·.1)))))∧Below w.heap.size w W)
  (fun _ _ _=>False)
  (OwnFrom.and (OwnFrom.and (Own.from (boxed_own _ _ _) _) (Own.from (boxed_own _ _ _) _)) (ownFrom_below (Nat.le_refl _) (by simp;omega)))
  (fun _ _ _ _ _ hs _ _=>hs)
  ⟨⟨bs,bn⟩,hB0⟩
  (fun x=>{ tmps:=#[.string s,.int .i64 at',.int .i64 m,.pointer (some ⟨w.heap.size,0,none⟩),undef,undef,.int .i64 0,.int .i64 0,.int .i64 0,.pointer (some ⟨w.heap.size+1,0,none⟩),
    .int .i64 (at'+x.1),.int .i64 (8*(x.1:Int)),.string s,.int .i64 s.size,.int .i64 at',.int .i64 m,.int .i64 0,.int .i64 0,.bool false,undef,.int .i64 at',.int .i64 m,
    .func (.func 214) #[] #[.pointer (some ⟨w.heap.size+1+1+1,0,none⟩),.pointer (some ⟨w.heap.size+1+1,0,none⟩)],.int .i64 (at'+x.1),.int .i64 (8*(x.1:Int)),
    undef,undef,undef,undef,undef,undef,undef,undef,undef],defers:=[] }) ?assign ?body ?done ?stop
 case assign=>
  intro l x W K hK
  gi_wp2
  exact hK
 case body=>
  rintro l pre ⟨x,hx⟩ W ⟨⟨hbs,hbn⟩,hB⟩ _;have hcs:=hbs.cell;have hcn:=hbn.cell;have hfn:=hbn.frozen;clear bs bn ba bm hB0 hwr;have hmx:Tryz.prog.follows .mixedOrders=true:=by kernel_rfl
  have hx0:(at':Int)+x<s.size:=by omega
  have hx1:(x:Int)≤3:=by omega
  have hbt:=get_bt s
  gi_wp2
  gi_region_o
  all_goals gi_wp2
  all_goals (try go_bits)
  all_goals
   exact ⟨(KeepsOthers.setCell _ _ _).trans (KeepsOthers.drew _),keepsTwo_set (by omega) (by omega) _ _,⟨hbs.other (by omega) _,by rw [List.map_append,List.map_cons,List.map_nil,getFold_snoc];exact hbn.set _⟩,(hB.setCell (p:=⟨w.heap.size+1,0,none⟩) (Nat.le_succ _) _).drew⟩
 case done=>
  rintro D ys W hD hys ⟨⟨_,hbn⟩,hB⟩ hK;have hcn:=hbn.cell;rw [hys,getFold_range s at' m hm] at hcn;clear hbn
  gi_wp2
  refine ⟨by simp,.inl ⟨_,_,rfl,run_takeDeferred hK,?_⟩⟩;exact ⟨_,by simp [results,Tryz.f168,go_sem],rfl,hB.trans (belowK_b (w:=w) (Nat.le_refl _) W D _ _ (by simp at hD;omega) hK rfl rfl)⟩
 case stop=>
  rintro D c pre W _ _ h _;exact h.elim
end Go.Proofs.YtlpnfbpgnfappaaGreat
