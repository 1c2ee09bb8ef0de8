/- Texts that are laid together. -/
import Derived.Test.YtlpnfbpgnfappaaGreatMrgK
import Derived.Test.YtlpnfbpgnfappaaGreatMrgI
import Derived.Test.YtlpnfbpgnfappaaGreatMrgB
import Derived.Test.YtlpnfbpgnfappaaGreatMrgD
import Derived.Lib.AppendStr
import Derived.Test.YtlpnfbpgnfappaaGreatMrgA
import Derived.WalkSpells
set_option maxHeartbeats 256000000
set_option maxRecDepth 100000

namespace Go.Proofs.YtlpnfbpgnfappaaGreat
open Go.ChangeShapes Go.WideShapes Go.ChangeAt Go.RowKit Go.PlainAid Go.Deep
section
variable {H : Type} {enc : TypeId × Value → H} {W : World} {spare : Nat → Bool} {held : Bool}
end
section
variable {H : Type} {enc : TypeId × Value → H} {W : World} {spare : Nat → Bool} {held : Bool}
end
section
variable {H : Type} {enc : TypeId × Value → H} {W : World} {spare : Nat → Bool} {held : Bool}
def Light (t:TypeId) (d:DataW H):Prop:=∀ n∈d.weights Tryz.prog t,n≤reachBytes
theorem light_arg {ts:List TypeId} {ds:List (DataW H)} (hs:(DataW.weightsEach Tryz.prog ts ds).all (·≤reachBytes)=true) {j:Nat} {t:TypeId} {d:DataW H} (ht:ts[j]?=some t) (hd:ds[j]?=some d):Light t d:=fun n hn=>by
 have:=List.all_eq_true.1 hs n (DataW.weights_mem_each ht hd n hn)
 simpa using this
theorem light_part {t:TypeId} {fs:Array Field} {xs:List (DataW H × List MemPlace)} (ht:Tryz.prog.underlying t=some (.struct fs)) (h:Light t (.agg (xs.map (·.1)))) {j:Nat} {f:Field} {x:DataW H × List MemPlace} (hf:fs[j]?=some f) (hd:xs[j]?=some x):Light f.type x.1:=fun n hn=>by
 refine h n ?_;simp only [DataW.weights,ht];exact DataW.weights_mem_each (j:=j) (t:=f.type) (d:=x.1) (by simp [hf]) (by simp [hd]) n hn
theorem light_all {e:TypeId}:∀ {l:List (DataW H)} {d:DataW H},d∈l→∀ n∈d.weights Tryz.prog e,n∈DataW.weightsAll Tryz.prog e l
 | x::r,d,hd,n,hn=>by
  simp only [DataW.weightsAll,List.mem_append]
  rcases List.mem_cons.1 hd with rfl | hd
  ·exact .inl hn
  ·exact .inr (light_all hd n hn)
theorem light_row {t e:TypeId} {l s:List (DataW H)} (ht:Tryz.prog.underlying t=some (.slice e)) (h:Light t (.slice l s)):l.length*Tryz.prog.bytesOf e≤reachBytes∧∀ d∈l,Light e d:=by
 unfold Light at h;simp only [DataW.weights,ht] at h;refine ⟨?_,fun d hd n hn=>h n (List.mem_cons_of_mem _ (List.mem_append_left _ (light_all hd n hn)))⟩;have h1:=h _ List.mem_cons_self;exact Nat.le_trans (Nat.mul_le_mul_right _ (Nat.le_add_right _ _)) h1
theorem row_of_trodW {α:Type} [Inhabited α] {t e:TypeId} {sz fuel:Nat} {c:Value} {y:DataW H × List MemPlace} {cells:α→Nat→Value} {good:α→Prop} (ht:Tryz.prog.underlying t=some (.slice e)) (hsz:Tryz.prog.cellsOf e=sz) (h0:0<sz)
  (conv:∀ n cs z,cs.length=sz→DataW.trod enc Tryz.prog W 0 spare held n e cs=some z→Light e z.1→∃ x:α,(∀ i,i<sz→cs[i]?=some (cells x i))∧good x)
  (h:DataW.trod enc Tryz.prog W 0 spare held fuel t [c]=some y) (hl:Light t y.1):∃ l:List α,Zal sz cells W.heap.size W c l∧(∀ x∈l,good x)∧l.length*Tryz.prog.bytesOf e≤reachBytes:=by
 rcases open_slice ht h with ⟨hc,_⟩ | ⟨a,len,cap,m,n,D,Pl,hc,_,hle,hm,hmm,hy,hx⟩
 ·injection hc with hc
  subst hc;exact ⟨[],⟨none,0,rfl,Nat.zero_le _,.inl rfl⟩,by simp,by simp⟩
 ·injection hc with hc
  subst hc;subst hy;obtain ⟨hlen,hall⟩:=light_row ht hl;rw [List.length_map,List.length_range] at hlen;rw [hsz] at hx;have hle:len≤m:=by rw [hmm];split <;> omega
  obtain ⟨X,hX⟩:=choose_lt (α:=α) (n:=len) (p:=fun i x=>(∀ j,j<sz→W.cell? (a.add (i*sz+j))=some (cells x j))∧good x) (fun i hi=>by
   obtain ⟨cs',h1,h2⟩:=hx i (by omega);obtain ⟨_,hlen,hcell⟩:=World.cells?_some h1;obtain ⟨x,hx1,hx2⟩:=conv n cs' _ hlen h2 (hall _ (List.mem_map_of_mem (List.mem_range.2 hi)));refine ⟨x,fun j hj=>?_,hx2⟩;have h3:=hcell j hj;rw [hx1 j hj] at h3;have hadd:(a.add (i*sz)).add j=a.add (i*sz+j)∨W.cell? ((a.add (i*sz)).add j)=W.cell? (a.add (i*sz+j)):=by
    unfold Addr.add
    by_cases e1:i*sz=0
    ·rw [if_pos e1,e1,Nat.zero_add];exact .inl rfl
    ·rw [if_neg e1]
     by_cases e2:j=0
     ·rw [if_pos e2,e2,Nat.add_zero,if_neg e1];exact .inl rfl
     ·rw [if_neg e2,if_neg (by omega),Nat.add_assoc];exact .inl rfl
   rcases hadd with hadd | hadd
   ·rw [← hadd];exact h3
   ·rw [← hadd];exact h3)
  refine ⟨(List.range len).map X,⟨some a,cap,by simp,by simp;unfold maxLen at hm;omega,?_⟩,?_,by simpa using hlen⟩
  ·by_cases hz:len=0
   ·left
    subst hz
    rfl
   ·right
    have hc0:=(hX 0 (by omega)).1 0 h0;rw [Nat.zero_mul,Nat.zero_add] at hc0;obtain ⟨b,off,spot⟩:=a;have hsp:spot=none:=by simpa [Addr.add] using World.cell?_spot hc0
    subst hsp;refine ⟨b,off,rfl,?_,fun j x hj i hi=>?_⟩
    ·have:=World.block_lt_of_cell? W _ hc0
     simpa [Addr.add] using this
    ·have hjl:j<len:=by
      have:=(List.getElem?_eq_some_iff.1 hj).1
      simpa using this
     obtain rfl:X j=x:=by
      rw [List.getElem?_map,List.getElem?_range hjl] at hj
      simpa using hj
     have h4:=(hX j hjl).1 i hi;unfold Addr.add at h4
     by_cases e0:j*sz+i=0
     ·rw [if_pos e0] at h4
      rw [Nat.add_assoc,e0];exact h4
     ·rw [if_neg e0] at h4
      rw [Nat.add_assoc];exact h4
  ·intro x hx
   obtain ⟨i,hi,rfl⟩:=List.mem_map.1 hx;exact (hX i (by simpa using hi)).2
def Mod.slim (M:Mod):Prop:=M.exps.length*24≤140737488351232∧M.imps.length*48≤140737488351232∧M.pats.length*32≤140737488351232
theorem mod_of_trodW (n:Nat) (c0 c1 c2 c3 c4 c5 c6:Value) (z:DataW H × List MemPlace) (h:DataW.trod enc Tryz.prog W 0 spare held n 31 [c0,c1,c2,c3,c4,c5,c6]=some z) (hw:Light 31 z.1) :
  ∃ M:Mod,c0=.string M.name∧c1=.int .i64 M.major∧c2=.int .i64 M.minor∧c3=.string M.text∧Zal 2 Exp.cell W.heap.size W c4 M.exps∧Zal 4 Imp.cell W.heap.size W c5 M.imps∧Zal 4 Pat.cell W.heap.size W c6 M.pats∧M.fits∧M.slim:=by
 obtain ⟨xs,m,_,rfl,_,hlen,hf⟩:=DataW.trod_struct Tryz.underlying31 h;have b1:Tryz.prog.bytesOf 129=24:=by kernel_rfl
 have b2:Tryz.prog.bytesOf 106=48:=by kernel_rfl
 have b3:Tryz.prog.bytesOf 113=32:=by kernel_rfl
 obtain ⟨x0,x1,x2,x3,x4,x5,x6,rfl⟩:=list7 hlen;have f0:=hf 0 _ rfl;have f1:=hf 1 _ rfl;have f2:=hf 2 _ rfl;have f3:=hf 3 _ rfl;have f4:=hf 4 _ rfl;have f5:=hf 5 _ rfl;have f6:=hf 6 _ rfl;obtain ⟨N,rfl,hN⟩:=str_of_trod f0;obtain ⟨a,rfl⟩:=Zby f1;obtain ⟨b,rfl⟩:=Zby f2;obtain ⟨T,rfl,hT⟩:=str_of_trod f3;have _:Inhabited Exp:=⟨⟨⟨#[]⟩,0⟩⟩;have _:Inhabited Imp:=⟨⟨⟨#[]⟩,⟨#[]⟩,0,0⟩⟩;have _:Inhabited Pat:=⟨⟨0,0,0,0⟩⟩;obtain ⟨es,hE,gE,sE⟩:=row_of_trodW (cells:=Exp.cell) Tryz.underlying22 (sz:=2) (by kernel_rfl) (by decide) (fun n cs z hl h _=>exp_of_trod n cs z hl h) f4 (light_part Tryz.underlying31 hw (j:=4) rfl rfl);obtain ⟨is,hI,gI,sI⟩:=row_of_trodW (cells:=Imp.cell) Tryz.underlying28 (sz:=4) (by kernel_rfl) (by decide) (fun n cs z hl h _=>imp_of_trod n cs z hl h) f5 (light_part Tryz.underlying31 hw (j:=5) rfl rfl);obtain ⟨ps,hP,_,sP⟩:=row_of_trodW (cells:=Pat.cell) Tryz.underlying29 (sz:=4) (by kernel_rfl) (by decide) (fun n cs z hl h _=>pat_of_trod n cs z hl h) f6 (light_part Tryz.underlying31 hw (j:=6) rfl rfl);rw [b1] at sE;rw [b2] at sI;rw [b3] at sP;exact ⟨⟨N,a,b,T,es,is,ps⟩,rfl,rfl,rfl,rfl,hE,hI,hP,⟨hN,hT,gE,gI⟩,sE,sI,sP⟩
theorem plc_of_trodW (n:Nat) (cs:List Value) (z:DataW H × List MemPlace) (hl:cs.length=8) (h:DataW.trod enc Tryz.prog W 0 spare held n 57 cs=some z) (hw:Light 57 z.1):∃ x:PV,(∀ i,i<8→cs[i]?=some (PV.cell x i))∧(ZbH W.heap.size W x∧x.mod.fits∧x.mod.slim):=by
 obtain ⟨xs,m,_,rfl,_,hlen,hf⟩:=DataW.trod_struct Tryz.underlying57 h;obtain ⟨x0,x1,rfl⟩:=list2 hlen;obtain ⟨c0,c1,c2,c3,c4,c5,c6,c7,rfl⟩:=list8 hl;have h7:Tryz.prog.cellsOf 31=7:=by kernel_rfl
 have f0:DataW.trod enc Tryz.prog W 0 spare held m 31 (([c0,c1,c2,c3,c4,c5,c6,c7].drop 0).take (Tryz.prog.cellsOf 31))=some x0:=hf 0 _ rfl;rw [h7] at f0;obtain ⟨M,rfl,rfl,rfl,rfl,hE,hI,hP,hF,hS⟩:=mod_of_trodW m c0 c1 c2 c3 c4 c5 c6 x0 f0 (light_part Tryz.underlying57 hw (j:=0) rfl rfl);obtain ⟨k,rfl⟩:=Zby (hf 1 _ rfl);refine ⟨⟨M,c4,c5,c6,k⟩,fun i hi=>?_,⟨hE,hI,hP⟩,hF,hS⟩
 have:i=0∨i=1∨i=2∨i=3∨i=4∨i=5∨i=6∨i=7:=by omega
 rcases this with rfl | rfl | rfl | rfl | rfl | rfl | rfl | rfl <;> rfl
theorem open_moduleW {v:Value} {d:DataW H} {ps:List MemPlace} {base:Nat} (hv:Value.okWide Tryz.prog W .any base 31 v) (h:DataW.Trod enc Tryz.prog W 0 spare held 31 v d ps) (hw:Light 31 d):∃ M,Zbf W.heap.size W v M∧M.fits∧M.slim:=by
 obtain ⟨cs,rfl,hcs⟩:=okWide_struct Tryz.underlying31 hv;obtain ⟨fuel,hf⟩:=h;have hl:=(DataW.trod_struct Tryz.underlying31 hf).choose_spec.choose_spec.2.2.1;have hc7:Tryz.prog.cellsOf 31=7:=by kernel_rfl
 rw [hc7] at hl;obtain ⟨c0,c1,c2,c3,c4,c5,c6,hcl⟩:=list7 hl;have hcs':cs.toList=[c0,c1,c2,c3,c4,c5,c6]:=hcl;have hcA:cs=#[c0,c1,c2,c3,c4,c5,c6]:=by rw [← Array.toArray_toList (xs:=cs),hcs']
 subst hcA;obtain ⟨M,rfl,rfl,rfl,rfl,hE,hI,hP,hF,hS⟩:=mod_of_trodW fuel c0 c1 c2 c3 c4 c5 c6 (d,ps) hf hw;exact ⟨M,⟨c4,c5,c6,rfl,hE,hI,hP⟩,hF,hS⟩
theorem open_registryW {v:Value} {d:DataW H} {ps:List MemPlace} {base:Nat} (hv:Value.okWide Tryz.prog W .any base 27 v) (h:DataW.Trod enc Tryz.prog W 0 spare held 27 v d ps) (hw:Light 27 d) :
  ∃ K l,Zaw W.heap.size W v K l∧K.fits∧(∀ x∈l,x.mod.fits)∧K.exps.length*24≤140737488351232∧l.length*128≤140737488351232∧∀ x∈l,x.mod.slim:=by
 obtain ⟨cs,rfl,hcs⟩:=okWide_struct Tryz.underlying27 hv;obtain ⟨fuel,hf⟩:=h;obtain ⟨xs,m,_,hd,hl,hlen,hg⟩:=DataW.trod_struct Tryz.underlying27 hf;injection hd with hd _;subst hd;have hc4:Tryz.prog.cellsOf 27=4:=by kernel_rfl
 have hk3:Tryz.prog.cellsOf 24=3:=by kernel_rfl
 have b1:Tryz.prog.bytesOf 129=24:=by kernel_rfl
 have b2:Tryz.prog.bytesOf 57=128:=by kernel_rfl
 obtain ⟨y0,y1,rfl⟩:=list2 hlen;rw [hc4] at hl;obtain ⟨c0,c1,c2,c3,hcl⟩:=list4 hl;have hcs':cs.toList=[c0,c1,c2,c3]:=hcl;have hcA:cs=#[c0,c1,c2,c3]:=by rw [← Array.toArray_toList (xs:=cs),hcs']
 subst hcA;have g0:DataW.trod enc Tryz.prog W 0 spare held m 24 (([c0,c1,c2,c3].drop 0).take (Tryz.prog.cellsOf 24))=some y0:=hg 0 _ rfl;rw [hk3] at g0;have g1:=hg 1 _ rfl;have w0:Light 24 y0.1:=light_part Tryz.underlying27 hw (j:=0) rfl rfl;have w1:=light_part Tryz.underlying27 hw (j:=1) rfl rfl;obtain ⟨zs,m2,_,rfl,_,hlen2,hf2⟩:=DataW.trod_struct Tryz.underlying24 g0;obtain ⟨z0,z1,z2,rfl⟩:=list3 hlen2;have f0:=hf2 0 _ rfl;have f1:=hf2 1 _ rfl;have f2:=hf2 2 _ rfl;obtain ⟨a,rfl⟩:=Zby f0;obtain ⟨b,rfl⟩:=Zby f1;have _:Inhabited Exp:=⟨⟨⟨#[]⟩,0⟩⟩;obtain ⟨es,hE,gE,sE⟩:=row_of_trodW (cells:=Exp.cell) Tryz.underlying22 (sz:=2) (by kernel_rfl) (by decide) (fun n cs z hl h _=>exp_of_trod n cs z hl h) f2 (light_part Tryz.underlying24 w0 (j:=2) rfl rfl);have _:Inhabited PV:=⟨⟨⟨⟨#[]⟩,0,0,⟨#[]⟩,[],[],[]⟩,.slice none 0 0,.slice none 0 0,.slice none 0 0,0⟩⟩;obtain ⟨l,hL,gL,sL⟩:=row_of_trodW (α:=PV) (cells:=PV.cell) (good:=fun x=>ZbH W.heap.size W x∧x.mod.fits∧x.mod.slim) Tryz.underlying25 (sz:=8) (by kernel_rfl) (by decide) plc_of_trodW g1 w1;rw [b1] at sE;rw [b2] at sL;exact ⟨⟨a,b,es⟩,l,⟨c2,c3,rfl,hE,hL,fun x hx=>(gL x hx).1⟩,gE,fun x hx=>(gL x hx).2.1,sE,sL,fun x hx=>(gL x hx).2.2⟩
end
end Go.Proofs.YtlpnfbpgnfappaaGreat
namespace Go.Proofs.YtlpnfbpgnfappaaGreat
open Go.RowKit Go.PlainAid
theorem sameExports_yes (l:List Exp) (v v':Value) (w:World) (h1:Zal 2 Exp.cell w.heap.size w v l) (h2:Zal 2 Exp.cell w.heap.size w v' l) :
  Calls Tryz.prog 76 #[v,v'] w fun e w'=>e=.returned (.bool true)∧∃ q,w'=w.drewN q:=by
 obtain ⟨a,cap,rfl,hz,h1⟩:=h1;obtain ⟨a',cap',rfl,_,h2⟩:=h2;have hne:((l.length:Int) != (l.length:Int))=false:=by simp
 go_enter Tryz.func76,Tryz.ntmps76
 go_wp2
 go_loopw [5] (fun i wr=>∃ (k:Nat),k≤l.length∧i=.int .i64 k∧Hid (∃ q,wr=w.drewN q)) (fun i _=>l.length-(intOf i).toNat)
 case atStart=>exact ⟨0,Nat.zero_le _,rfl,(⟨0,rfl⟩:∃ q,w=w.drewN q)⟩
 case round=>
  obtain ⟨k,hk,rfl,HQ⟩:=hrel
  by_cases hlt:k<l.length
  ·obtain ⟨p,hp⟩:∃ p,l[k]?=some p:=⟨_,List.getElem?_eq_getElem hlt⟩
   rcases h1 with h | ⟨b,off,rfl,hbn,hc⟩
   ·subst h;simp at hlt
   rcases h2 with h | ⟨b',off',rfl,hbn',hc'⟩
   ·subst h;simp at hlt
   have hcl:∀ p,wr.cell? p=w.cell? p:=fun p=>by obtain ⟨q,hq⟩:=HQ.out;rw [hq];simp
   have c0:=(hcl _).trans (hc k _ hp 0 (by omega));have c1:=(hcl _).trans (hc k _ hp 1 (by omega));have d0:=(hcl _).trans (hc' k _ hp 0 (by omega));have d1:=(hcl _).trans (hc' k _ hp 1 (by omega));obtain ⟨n,A⟩:=p;dsimp only [Exp.cell] at c0 c1 d0 d1;rw [Nat.add_zero] at c0 d0;clear hcl hc hc' hp;go_wp2
   go_quiet (fail)
   go_wp2;obtain ⟨q,hq⟩:=HQ.out;exact ⟨⟨k+1,by omega,by go_num,(⟨q+_,by rw [hq,World.drewN_drewN]⟩:∃ q,_=w.drewN q)⟩,by simp [intOf];omega⟩
  ·go_wp2
   go_ret;exact ⟨rfl,HQ.out⟩
theorem sameModule_yes (M:Mod) (v v':Value) (w:World) (h:Zbf w.heap.size w v M) (h':Zbf w.heap.size w v' M) :
  Calls Tryz.prog 27 #[v,v'] w fun e w'=>e=.returned (.bool true)∧Below w.heap.size w w':=by
 obtain ⟨ve,vi,vp,rfl,hE,hI,hP⟩:=h;obtain ⟨ve',vi',vp',rfl,hE',hI',hP'⟩:=h';obtain ⟨N,a,b,T,es,is,ps⟩:=M;dsimp only at *;have HE:Hid (∀ w',Below w.heap.size w w'→Calls Tryz.prog 76 #[ve,ve'] w' fun e w''=>e=.returned (.bool true)∧∃ q,w''=w'.drewN q):=
  fun w' hb=>sameExports_yes es ve ve' w' ((hE.below hb).more hb.size) ((hE'.below hb).more hb.size)
 obtain ⟨pe,ke,rfl,_,_⟩:=hE;obtain ⟨pe',ke',rfl,_,_⟩:=hE';have HI:Hid (Zal 4 Imp.cell w.heap.size w vi is):=hI;have HI':Hid (Zal 4 Imp.cell w.heap.size w vi' is):=hI';have HP:Hid (Zal 4 Pat.cell w.heap.size w vp ps):=hP;have HP':Hid (Zal 4 Pat.cell w.heap.size w vp' ps):=hP';obtain ⟨pi,ki,rfl,_,_⟩:=hI;obtain ⟨pi',ki',rfl,_,_⟩:=hI';obtain ⟨pp,kp,rfl,_,_⟩:=hP;obtain ⟨pp',kp',rfl,_,_⟩:=hP';have n1:((is.length:Int) != (is.length:Int))=false:=by simp
 have n2:((ps.length:Int) != (ps.length:Int))=false:=by simp
 have HW:Hid (Below w.heap.size w ((w.alloc (.cells #[.string N,.int .i64 a,.int .i64 b,.string T,.slice pe es.length ke,.slice pi is.length ki,.slice pp ps.length kp] 31)).alloc (.cells #[.string N,.int .i64 a,.int .i64 b,.string T,.slice pe' es.length ke',.slice pi' is.length ki',.slice pp' ps.length kp'] 31))):=
  ((Below.refl _ _).alloc (Nat.le_refl _) _).alloc (by simp) _
 go_enter Tryz.func27,Tryz.ntmps27
 go_wp2_with fail;refine (HE.out _ HW.out).mono ?_;rintro e w1 ⟨rfl,q,hq⟩;have B1:Below w.heap.size w w1:=by rw [hq];exact below_drewN HW.out q
 have hcl:∀ p,w1.cell? p=((w.alloc (.cells #[.string N,.int .i64 a,.int .i64 b,.string T,.slice pe es.length ke,.slice pi is.length ki,.slice pp ps.length kp] 31)).alloc (.cells #[.string N,.int .i64 a,.int .i64 b,.string T,.slice pe' es.length ke',.slice pi' is.length ki',.slice pp' ps.length kp'] 31)).cell? p:=fun p=>by rw [hq];simp
 have d5:=hcl ⟨w.heap.size,5,none⟩;have d6:=hcl ⟨w.heap.size,6,none⟩;have f5:=hcl ⟨w.heap.size+1,5,none⟩;have f6:=hcl ⟨w.heap.size+1,6,none⟩;have hz1:w.heap.size+1<w1.heap.size:=by rw [hq];simp
 simp at d5 d6 f5 f6;obtain ⟨_,_,e0,_,hI⟩:=(HI.out.below B1).more B1.size;obtain ⟨_,_,e1,_,hI'⟩:=(HI'.out.below B1).more B1.size;obtain ⟨_,_,e2,_,hP⟩:=(HP.out.below B1).more B1.size;obtain ⟨_,_,e3,_,hP'⟩:=(HP'.out.below B1).more B1.size
 cases e0;cases e1;cases e2;cases e3
 clear hcl hq HE HI HI' HP HP' HW;go_wp2
 go_loopw [5] (fun i wr=>∃ (k:Nat),k≤is.length∧i=.int .i64 k∧Below w1.heap.size w1 wr) (fun i _=>is.length-(intOf i).toNat)
 case atStart=>exact ⟨0,Nat.zero_le _,rfl,Below.refl _ _⟩
 case round=>
  obtain ⟨k,hk,rfl,B⟩:=hrel;have x5:=(B.cell (p:=⟨w.heap.size,5,none⟩) (by simp;omega)).trans d5;have y5:=(B.cell (p:=⟨w.heap.size+1,5,none⟩) (by simp;omega)).trans f5
  by_cases hlt:k<is.length
  ·obtain ⟨p,hp⟩:∃ p,is[k]?=some p:=⟨_,List.getElem?_eq_getElem hlt⟩
   rcases hI with h | ⟨bb,off,rfl,hbn,hc⟩
   ·subst h;simp at hlt
   rcases hI' with h | ⟨bb',off',rfl,hbn',hc'⟩
   ·subst h;simp at hlt
   have c0:=(B.cell (p:=⟨bb,off+k*4+0,none⟩) hbn).trans (hc k _ hp 0 (by omega));have c1:=(B.cell (p:=⟨bb,off+k*4+1,none⟩) hbn).trans (hc k _ hp 1 (by omega));have c2:=(B.cell (p:=⟨bb,off+k*4+2,none⟩) hbn).trans (hc k _ hp 2 (by omega));have c3:=(B.cell (p:=⟨bb,off+k*4+3,none⟩) hbn).trans (hc k _ hp 3 (by omega));have g0:=(B.cell (p:=⟨bb',off'+k*4+0,none⟩) hbn').trans (hc' k _ hp 0 (by omega));have g1:=(B.cell (p:=⟨bb',off'+k*4+1,none⟩) hbn').trans (hc' k _ hp 1 (by omega));have g2:=(B.cell (p:=⟨bb',off'+k*4+2,none⟩) hbn').trans (hc' k _ hp 2 (by omega));have g3:=(B.cell (p:=⟨bb',off'+k*4+3,none⟩) hbn').trans (hc' k _ hp 3 (by omega));obtain ⟨m,n,va,vb⟩:=p;dsimp only [Imp.cell] at c0 c1 c2 c3 g0 g1 g2 g3;rw [Nat.add_zero] at c0 g0;clear hc hc' hp hP hP' d6 f6;go_wp2
   go_quiet (fail)
   go_wp2;exact ⟨⟨k+1,by omega,by go_num,below_drewN B _⟩,by simp [intOf];omega⟩
  ·clear hI hI'
   go_wp2
   go_loopw [6] (fun i wr2=>∃ (k:Nat),k≤ps.length∧i=.int .i64 k∧Below w1.heap.size w1 wr2) (fun i _=>ps.length-(intOf i).toNat)
   case atStart=>exact ⟨0,Nat.zero_le _,rfl,B⟩
   case round=>
    obtain ⟨j,hj,rfl,B2⟩:=hrel;have x6:=(B2.cell (p:=⟨w.heap.size,6,none⟩) (by simp;omega)).trans d6;have y6:=(B2.cell (p:=⟨w.heap.size+1,6,none⟩) (by simp;omega)).trans f6
    by_cases hlt2:j<ps.length
    ·obtain ⟨p,hp⟩:∃ p,ps[j]?=some p:=⟨_,List.getElem?_eq_getElem hlt2⟩
     rcases hP with h | ⟨bb,off,rfl,hbn,hc⟩
     ·subst h;simp at hlt2
     rcases hP' with h | ⟨bb',off',rfl,hbn',hc'⟩
     ·subst h;simp at hlt2
     have c0:=(B2.cell (p:=⟨bb,off+j*4+0,none⟩) hbn).trans (hc j _ hp 0 (by omega));have c1:=(B2.cell (p:=⟨bb,off+j*4+1,none⟩) hbn).trans (hc j _ hp 1 (by omega));have c2:=(B2.cell (p:=⟨bb,off+j*4+2,none⟩) hbn).trans (hc j _ hp 2 (by omega));have c3:=(B2.cell (p:=⟨bb,off+j*4+3,none⟩) hbn).trans (hc j _ hp 3 (by omega));have g0:=(B2.cell (p:=⟨bb',off'+j*4+0,none⟩) hbn').trans (hc' j _ hp 0 (by omega));have g1:=(B2.cell (p:=⟨bb',off'+j*4+1,none⟩) hbn').trans (hc' j _ hp 1 (by omega));have g2:=(B2.cell (p:=⟨bb',off'+j*4+2,none⟩) hbn').trans (hc' j _ hp 2 (by omega));have g3:=(B2.cell (p:=⟨bb',off'+j*4+3,none⟩) hbn').trans (hc' j _ hp 3 (by omega));obtain ⟨K,A,S,D⟩:=p;dsimp only [Pat.cell] at c0 c1 c2 c3 g0 g1 g2 g3;rw [Nat.add_zero] at c0 g0;clear hc hc' hp;go_wp2
     go_quiet (fail)
     go_wp2;exact ⟨⟨j+1,by omega,by go_num,below_drewN B2 _⟩,by simp [intOf];omega⟩
    ·clear hP hP'
     go_wp2;go_ret;exact ⟨rfl,B1.trans (B2.mono B1.size)⟩
end Go.Proofs.YtlpnfbpgnfappaaGreat
namespace Go.Proofs.YtlpnfbpgnfappaaGreat
open Go.RowKit Go.PlainAid Go.Lib
theorem info5:(Tryz.prog.info? 5).map (fun i=>(i.zero,i.size,i.bytes))=some (some (.int .u8 0),1,1):=by kernel_rfl
def Writes (W:World) (B:Nat) (l:List UInt8):Prop:=∃ sv,Boxed W B 121 sv∧W.ownsRow (B+1) 5 1 sv l.length (l.map fun b=>Value.int .u8 b.toNat)
structure ZaG (B:Nat) (w w':World):Prop where
 below:Below B w w'
 other:∀ k cs t fz,k≠B→t≠5→w.heap[k]?=some (.cells cs t fz)→w'.heap[k]?=some (.cells cs t fz)
theorem ZaG.refl (B:Nat) (w:World):ZaG B w w:=⟨Below.refl _ _,fun _ _ _ _ _ _ h=>h⟩
theorem ZaG.trans {B:Nat} {a b c:World} (h:ZaG B a b) (k:ZaG B b c):ZaG B a c:=⟨h.below.trans k.below,fun j cs t fz h1 h2 h3=>k.other j cs t fz h1 h2 (h.other j cs t fz h1 h2 h3)⟩
theorem ZaG.cell {B:Nat} {w w':World} (h:ZaG B w w') {k:Nat} {cs:Array Value} {t:TypeId} {fz:Nat × Nat} (hk:k≠B) (ht:t≠5) (hh:w.heap[k]?=some (.cells cs t fz)) (o:Nat):w'.cell? ⟨k,o,none⟩=w.cell? ⟨k,o,none⟩:=
 World.cell?_of_block (w:=w) ((h.other k cs t fz hk ht hh).trans hh.symm)
theorem ZaG.alloc {B:Nat} {a w:World} (h:ZaG B a w) (hB:B≤w.heap.size) (o:Obj):ZaG B a (w.alloc o):=
 ⟨h.below.alloc hB o,fun k cs t fz h1 h2 h3=>(Below.heap_alloc w o k (Array.getElem?_eq_some_iff.1 (h.other k cs t fz h1 h2 h3)).1).trans (h.other k cs t fz h1 h2 h3)⟩
theorem ZaG.grown {B:Nat} {w w':World} {row:Option Nat} (hg:w.grownBy w' row) (hB:B≤w.heap.size) (hr:∀ k,row=some k→B≤k∧∃ cs fz,w.heap[k]?=some (.cells cs 5 fz)):ZaG B w w':=
 ⟨(Below.refl B w).grown hg hB (fun k e=>(hr k e).1),fun k cs t fz _ h2 h3=>(hg.block k (Array.getElem?_eq_some_iff.1 h3).1 (fun e=>by
  obtain ⟨_,cs',fz',h⟩:=hr k e.symm;rw [h3] at h;injection h with h;injection h with h4 h5 h6;exact h2 h5)).trans h3⟩
theorem ZaG.set {B:Nat} {w:World} (v:Value):ZaG B w (w.setCell ⟨B,0,none⟩ v):=
 ⟨(Below.refl B w).setCell (p:=⟨B,0,none⟩) (Nat.le_refl _) v,fun k _ _ _ h1 _ h3=>(Below.heap_setCell w ⟨B,0,none⟩ v k h1).trans h3⟩
theorem ownBlock_row {W:World} {base:Nat} {sv:Value} {n:Nat} {xs:List Value} (h:W.ownsRow base 5 1 sv n xs):∀ k,sv.ownBlock=some k→base≤k∧∃ cs fz,W.heap[k]?=some (.cells cs 5 fz):=by
 intro k hk
 rcases h.2 with ⟨rfl,_⟩ | ⟨g,cap,cur,rfl,hg,hb,_⟩
 ·cases hk
 ·simp [Value.ownBlock] at hk
  subst hk;exact ⟨hg,cur,(0,0),hb⟩
theorem Zbh {W:World} {base:Nat} {e:TypeId} {size:Nat} {v:Value} {n:Nat} {xs:List Value} (h:W.ownsRow base e size v n xs):∃ a cap,v=.slice a n cap:=by
 rcases h.2 with ⟨rfl,rfl⟩ | ⟨g,cap,cur,rfl,_⟩
 ·exact ⟨none,0,rfl⟩
 ·exact ⟨_,cap,rfl⟩
theorem box_not_row {W:World} {B:Nat} {sv:Value} {n:Nat} {xs:List Value} (h:W.ownsRow (B+1) 5 1 sv n xs):some B≠sv.ownBlock:=by
 intro e
 have:=(ownBlock_row h B e.symm).1
 omega
theorem add_any (B:Nat) (l:List UInt8) (s:ByteArray) (w:World) (h:Writes w B l) (hl:l.length+s.size≤100000000) :
  Calls Tryz.prog 130 #[.pointer (some ⟨B,0,none⟩),.string s] w fun e w'=>e=.returned (.tuple #[])∧Writes w' B (l++s.data.toList)∧ZaG B w w':=by
 obtain ⟨sv,hbx,hrow⟩:=h;obtain ⟨i0,hi,hz0,hz1,hz2⟩:=info_parts info5;have hc:=hbx.cell;have hfz:=hbx.frozen;have hlt:=hbx.lt
 go_enter Tryz.func130,Tryz.ntmps130
 go_wp2_with (at_builtin;refine wpList_append_own_string _ rfl _ _ 117 9 rfl (B+1) 5 i0 Tryz.underlying117 Tryz.underlying9 hi hz0 hz1 hz2 _ _ _ rfl hrow s rfl (by unfold maxLen;omega) (by omega) (by omega) ?_;intro v' w1 hown' hgrow _;obtain ⟨av,kv,rfl⟩:=Zbh hown';have hbx1:=hbx.kept hgrow (box_not_row hrow);have hc1:=hbx1.cell;have hf1:=hbx1.frozen)
 go_end0
 refine ⟨rfl,⟨_,hbx1.set _,?_⟩,?_⟩
 ·rw [List.length_append,List.map_append]
  have e:s.data.toList.length=s.size:=by simp
  rw [e];exact hown'.kept (grownBy_setCell' _ _ _) (.inr (fun e=>box_not_row hown' e.symm))
 ·exact (ZaG.grown hgrow (by omega) (fun k e=>⟨by have:=(ownBlock_row hrow k e).1;omega,(ownBlock_row hrow k e).2⟩)).trans (ZaG.set _)
end Go.Proofs.YtlpnfbpgnfappaaGreat
namespace Go.Proofs.YtlpnfbpgnfappaaGreat
open Go.RowKit Go.PlainAid
theorem pow_le_31 (j:Nat) (h:j≤31):(1:Int)≤2 ^ j∧(2:Int) ^ j≤2147483648:=by
 constructor
 ·have:(0:Int)<2 ^ j:=Int.pow_pos (by omega)
  omega
 ·have:=Nat.pow_le_pow_right (n:=2) (by omega) h
  have h':((2 ^ j:Nat):Int)≤((2 ^ 31:Nat):Int):=Int.ofNat_le.2 this
  simpa using h'
theorem power_any (k:Nat) (hk:k≤32) (w:World) :
  Calls Tryz.prog 206 #[.int .i64 k] w fun e w'=>e=.returned (.int .i64 (2 ^ k))∧w'=w:=by
 go_enter Tryz.func206,Tryz.ntmps206
 go_wp2
 go_loop [3,4] (fun x i=>∃ (j:Nat) (p:Int),j≤k∧i=.int .i64 j∧x=.int .i64 p∧Hid (p=2 ^ j)) (fun _ i=>k-(intOf i).toNat)
 case atStart=>exact ⟨0,1,Nat.zero_le _,rfl,rfl,by show (1:Int)=2 ^ 0;rfl⟩
 case round=>
  obtain ⟨j,p,hj,rfl,rfl,HP⟩:=hrel
  by_cases hlt:j<k
  ·obtain ⟨p1,p2⟩:=pow_le_31 j (by omega)
   rw [← HP.out] at p1 p2;go_wp2
   go_round
   case rel=>exact ⟨j+1,2*p,by omega,by go_num,rfl,by show 2*p=2 ^ (j+1);rw [HP.out,Int.pow_succ];omega⟩
   case measure=>simp [intOf];omega
  ·obtain rfl:j=k:=by omega
   go_wp2;go_ret;exact ⟨by rw [← HP.out];rfl,rfl⟩
theorem tmod_neg (n m:Int) (h0:0<m) (h:n.tmod m<0):n % m=n.tmod m+m∧-m<n.tmod m:=by
 have a:=Int.emod_nonneg n (b:=m) (by omega);have b:=Int.emod_lt_of_pos n h0;rw [Int.tmod_eq_emod] at h ⊢
 split at h
 ·omega
 ·rw [if_neg ‹_›];omega
theorem tmod_nonneg (n m:Int) (h0:0<m) (h:0≤n.tmod m):n % m=n.tmod m:=by
 have a:=Int.emod_nonneg n (b:=m) (by omega);have b:=Int.emod_lt_of_pos n h0;rw [Int.tmod_eq_emod] at h ⊢
 split at h
 ·rw [if_pos ‹_›];omega
 ·omega
theorem Zck (n m:Int) (h0:0<m) (h1:m≤4294967296) (w:World) :
  Calls Tryz.prog 205 #[.int .i64 n,.int .i64 m] w fun e w'=>e=.returned (.int .i64 (n % m))∧w'=w:=by
 have hne:(m == 0)=false:=beq_eq_false_iff_ne.2 (by omega);have hne1:(m == -1)=false:=beq_eq_false_iff_ne.2 (by omega)
 by_cases h:n.tmod m<0
 ·obtain ⟨e1,e2⟩:=tmod_neg n m h0 h
  rw [e1];have HE:Hid (wrap64 (n.tmod m+m)=n.tmod m+m):=by show wrap64 (n.tmod m+m)=n.tmod m+m;unfold wrap64;omega
  clear e1
  go_enter Tryz.func205,Tryz.ntmps205
  go_wp2;go_ret;exact ⟨by first | rfl | (rw [← HE.out];rfl),rfl⟩
 ·have e1:=tmod_nonneg n m h0 (by omega)
  rw [e1];clear e1
  go_enter Tryz.func205,Tryz.ntmps205
  go_wp2;go_ret;exact ⟨rfl,rfl⟩
theorem power8 (j:Nat) (hj:j≤4) (w:World):Calls Tryz.prog 206 #[.int .i64 (8*(j:Int))] w fun e w'=>e=.returned (.int .i64 (256 ^ j))∧w'=w:=by
 have:=power_any (8*j) (by omega) w
 rwa [pow_256,show ((8*j:Nat):Int)=8*(j:Int) from by omega] at this
theorem pow256_le (j:Nat) (h:j≤4):(1:Int)≤256 ^ j∧(256:Int) ^ j≤4294967296:=by
 have:j=0∨j=1∨j=2∨j=3∨j=4:=by omega
 rcases this with rfl | rfl | rfl | rfl | rfl <;> decide
def ZbL (n:Int) (m:Nat):ByteArray:=⟨((List.range m).map (byteOf n)).toArray⟩
theorem bytesN_size (n:Int) (m:Nat):(ZbL n m).size=m:=by
 show ((List.range m).map (byteOf n)).toArray.size=m
 simp
theorem byteOf_div (n:Int) (j:Nat):byteOf (n / 256 ^ j) 0=byteOf n j:=by unfold byteOf;rw [Int.pow_zero,Int.ediv_one]
theorem bytesN_succ (n:Int) (j:Nat):ZbL n j++(⟨#[byteOf (n / 256 ^ j) 0]⟩:ByteArray)=ZbL n (j+1):=by
 unfold ZbL;rw [List.range_succ,List.map_append,byteOf_div,ByteArray.mk_append_mk]
 simp
theorem conv1 (W:World) (X:Int):Sem.run Tryz.prog (convert 117 9 (.slice (some ⟨W.heap.size,0,none⟩) 1 1)) (W.alloc (.cells #[.int .u8 (X % 256)] 5))=.ok (.string ⟨#[byteOf X 0]⟩) (W.alloc (.cells #[.int .u8 (X % 256)] 5)):=by
 have h:=run_convert_bytes_back (P:=Tryz.prog) (W.alloc (.cells #[.int .u8 (X % 256)] 5)) 117 9 5 ⟨W.heap.size,0,none⟩ 1 [byteOf X 0] Tryz.underlying117 Tryz.underlying5 Tryz.underlying9
  (fun j hj=>by
   obtain rfl:j=0:=by simpa using hj
   have e:=byteOf_toNat X 0;simp only [Int.pow_zero,Int.ediv_one] at e;rw [List.getElem_cons_zero,e];simp [Addr.add])
 exact h
theorem bytesOf_any (n:Int) (m:Nat) (w:World) (hm:m≤4) :
  Calls Tryz.prog 184 #[.int .i64 n,.int .i64 m] w fun e w'=>e=.returned (.string (ZbL n m))∧Below w.heap.size w w':=by
 obtain ⟨p1,p2⟩:=pow256_le m hm;have HP:Hid (∀ w,Calls Tryz.prog 206 #[.int .i64 (8*(m:Int))] w fun e w'=>e=.returned (.int .i64 (256 ^ m))∧w'=w):=fun w=>power8 m hm w;have HM:Hid (∀ w,Calls Tryz.prog 205 #[.int .i64 n,.int .i64 (256 ^ m)] w fun e w'=>e=.returned (.int .i64 (n % 256 ^ m))∧w'=w):=fun w=>Zck n _ (by omega) p2 w;have n0:=Int.emod_nonneg n (b:=256 ^ m) (by omega);have n1:=Int.emod_lt_of_pos n (b:=256 ^ m) (by omega);have HB:Hid (∀ j,j<m→byteOf (n % 256 ^ m) j=byteOf n j):=by
  intro j hj;unfold byteOf;rw [(same_bytes n m j (by omega) hm hj).1]
 have HBN:Hid (ZbL (n % 256 ^ m) m=ZbL n m):=by
  show ZbL (n % 256 ^ m) m=ZbL n m
  unfold ZbL;rw [List.map_congr_left (fun j hj=>HB.out j (List.mem_range.1 hj))]
 rw [← HBN.out];clear HB HBN;generalize n % 256 ^ m=N at *;generalize (256:Int) ^ m=P at *
 go_enter Tryz.func184,Tryz.ntmps184
 go_wp2_with (first
  | (go_at_call 206;refine (HP.out _).mono ?_;rintro e w ⟨rfl,rfl⟩)
  | (go_at_call 205;refine (HM.out _).mono ?_;rintro e w ⟨rfl,rfl⟩))
 go_loopw [0,5,6] (fun x s i wr=>∃ (j:Nat) (X:Int) (S:ByteArray),j≤m∧i=.int .i64 j∧x=.int .i64 X∧s=.string S∧0≤X∧X≤4294967296∧S.size=j∧Hid (X=N / 256 ^ j)∧Hid (S=ZbL N j)∧Below w.heap.size w wr) (fun _ _ i _=>m-(intOf i).toNat)
 case atStart=>exact ⟨0,N,⟨#[]⟩,Nat.zero_le _,rfl,rfl,rfl,n0,by omega,rfl,by show N=N / 256 ^ 0;simp,rfl,Below.refl _ _⟩
 case round=>
  obtain ⟨j,X,S,hj,rfl,rfl,rfl,x0,x1,hsz,HX,HS,B⟩:=hrel
  by_cases hlt:j<m
  ·have HSZ:Hid (S.size=j):=hsz
   clear hsz;obtain ⟨E,HE⟩:∃ E:ByteArray,Hid (E=⟨#[byteOf X 0]⟩):=⟨_,rfl⟩;have hcv:=conv1 wr X;rw [← HE.out] at hcv;have hE:E.size≤1:=by rw [HE.out];exact Nat.le_refl _
   have hS:S.size≤4:=by rw [HSZ.out];omega
   have hadd:∀ W,Sem.run Tryz.prog (Op.stringOp .add S E) W=.ok (.string (S++E)) W:=fun W=>run_string_add_sum W S E (by omega);have HS2:Hid (S++E=ZbL N (j+1)):=by
    show S++E=ZbL N (j+1)
    rw [HS.out,HE.out,HX.out,bytesN_succ]
   have HX2:Hid (X / 256=N / 256 ^ (j+1)):=by
    show X / 256=N / 256 ^ (j+1)
    rw [HX.out]
    have:j=0∨j=1∨j=2∨j=3:=by omega
    rcases this with rfl | rfl | rfl | rfl <;> omega
   have HZ2:Hid ((S++E).size=j+1):=by
    show (S++E).size=j+1
    rw [HS2.out,bytesN_size]
   go_wp2;exact ⟨⟨j+1,X / 256,S++E,by omega,by go_num,rfl,rfl,by omega,by omega,HZ2.out,HX2.out,HS2.out,B.alloc B.size _⟩,by simp [intOf];omega⟩
  ·obtain rfl:j=m:=by omega
   go_wp2;go_ret;exact ⟨by rw [← HS.out];rfl,B⟩
end Go.Proofs.YtlpnfbpgnfappaaGreat
namespace Go.Proofs.YtlpnfbpgnfappaaGreat
open Go.RowKit Go.PlainAid Go.Lib
theorem ZaT {w w':World} (h:Below w.heap.size w w'):w.grownBy w' none:=⟨h.os,h.tape,h.output,h.size,fun k hk _=>h.block k hk⟩
theorem Writes.below {w w':World} {B:Nat} {l:List UInt8} (h:Writes w B l) (hb:Below w.heap.size w w'):Writes w' B l:=by
 obtain ⟨sv,h1,h2⟩:=h;refine ⟨sv,h1.kept (ZaT hb) (by simp),h2.kept (ZaT hb) ?_⟩
 cases e:sv.ownBlock
 ·exact .inl rfl
 ·exact .inr (by simp)
theorem ZaG.of_below {B:Nat} {w w':World} (h:Below w.heap.size w w') (hB:B≤w.heap.size):ZaG B w w':=
 ⟨h.mono hB,fun k _ _ _ _ _ h3=>(h.block k (Array.getElem?_eq_some_iff.1 h3).1).trans h3⟩
def zeros (m:Nat):ByteArray:=⟨(List.replicate m (0:UInt8)).toArray⟩
theorem zeros_size (m:Nat):(zeros m).size=m:=by
 show (List.replicate m (0:UInt8)).toArray.size=m
 simp
theorem put_zeros (m:Nat) (n:Int):putS (zeros m) 0 m n=ZbL n m:=by
 refine ba_ext (by rw [putS_size,zeros_size,bytesN_size]) (fun i hi=>?_);rw [putS_size,zeros_size] at hi
 have:=bt_put_in (zeros m) 0 m n i (by rw [zeros_size];omega) hi
 rw [Nat.zero_add] at this;rw [this,bt_list];have e:(ZbL n m).data.toList[i]?=some (byteOf n i):=by simp [ZbL,hi]
 rw [e];exact (byteOf_toNat n i).symm
def Zad (m:Nat) (ns:List Int):List UInt8:=ns.flatMap fun n=>(ZbL n m).data.toList
theorem numsBytes_snoc (m:Nat) (ns:List Int) (n:Int):Zad m (ns++[n])=Zad m ns++(ZbL n m).data.toList:=by simp [Zad]
theorem bytesN_len (n:Int) (m:Nat):(ZbL n m).data.toList.length=m:=by
 have:=bytesN_size n m
 simpa using this
theorem Zah (m:Nat) (ns:List Int):(Zad m ns).length=m*ns.length:=by
 induction ns with
 | nil=>rfl
 | cons n ns ih=>
  show ((ZbL n m).data.toList++Zad m ns).length=_
  rw [List.length_append,bytesN_len,ih,List.length_cons,Nat.mul_succ];omega
theorem zeros_conv (m:Nat) (W:World) (fz:Nat × Nat):Sem.run Tryz.prog (convert 117 9 (.slice (some ⟨W.heap.size,0,none⟩) m m)) (W.alloc (.cells (Array.replicate m (.int .u8 0)) 5 fz))=.ok (.string (zeros m)) (W.alloc (.cells (Array.replicate m (.int .u8 0)) 5 fz)):=by
 have h:=run_convert_bytes_back (P:=Tryz.prog) (W.alloc (.cells (Array.replicate m (.int .u8 0)) 5 fz)) 117 9 5 ⟨W.heap.size,0,none⟩ m (List.replicate m 0) Tryz.underlying117 Tryz.underlying5 Tryz.underlying9
  (fun j hj=>by
   have hj':j<m:=by simpa using hj
   have:=World.cell?_alloc_mark W (Array.replicate m (.int .u8 0)) 5 fz j
   have e2:(Array.replicate m (Value.int .u8 0))[j]?=some (.int .u8 0):=by simp [hj']
   rw [e2] at this
   by_cases e:j=0
   ·subst e;simpa [Addr.add] using this
   ·simpa [Addr.add,e] using this)
 rw [List.length_replicate] at h;exact h
theorem make_conv (m:Nat) (hm:m=1∨m=2) (W:World):∃ o:Obj,Sem.run Tryz.prog (Instr.makeSlice 117 (.int .i64 m) (.int .i64 m)) W=.ok (.slice (some ⟨W.heap.size,0,none⟩) m m) (W.alloc o)∧
  Sem.run Tryz.prog (convert 117 9 (.slice (some ⟨W.heap.size,0,none⟩) m m)) (W.alloc o)=.ok (.string (zeros m)) (W.alloc o):=by
 obtain ⟨i0,hi,hz0,hz1,hz2⟩:=info_parts info5;have h:=run_make (P:=Tryz.prog) W 117 5 i0 (.int .u8 0) Tryz.underlying117 hi hz0 .i64 .i64 m m (by omega) (by omega) (by rw [hz2];omega) (by omega);have e:madeCells (Value.int .u8 0).cells (m*i0.size)=Array.replicate m (.int .u8 0):=by
  rw [hz1]
  rcases hm with rfl | rfl <;> kernel_rfl
 rw [Int.toNat_natCast,e] at h;exact ⟨_,h,zeros_conv m W (0,0)⟩
theorem numbers_any (B c:Nat) (m:Nat) (hm:m=1∨m=2) (ns:List Int) (cap:Nat) (l:List UInt8) (w:World) (h:Writes w B l) (hcB:c≠B) (hc:w.heap[c]?=some (.cells (ns.map (Value.int .i64)).toArray 3 (0,0))) (hn:ns.length≤2) (hl:l.length≤50000000) :
  Calls Tryz.prog 129 #[.pointer (some ⟨B,0,none⟩),.int .i64 m,.slice (some ⟨c,0,none⟩) ns.length cap] w fun e w'=>e=.returned (.tuple #[])∧Writes w' B (l++Zad m ns)∧ZaG B w w':=by
 have HL:Hid (l.length≤50000000):=hl;clear hl
 go_enter Tryz.func129,Tryz.ntmps129
 go_wp2
 go_loopw [12] (fun i wr=>∃ (k:Nat),k≤ns.length∧i=.int .i64 k∧Writes wr B (l++Zad m (ns.take k))∧ZaG B w wr) (fun i _=>ns.length-(intOf i).toNat)
 case atStart=>exact ⟨0,Nat.zero_le _,rfl,by simpa [Zad] using h,ZaG.refl _ _⟩
 case round=>
  obtain ⟨k,hk,rfl,hW,hK⟩:=hrel
  by_cases hlt:k<ns.length
  ·obtain ⟨n,hp⟩:∃ n,ns[k]?=some n:=⟨_,List.getElem?_eq_getElem hlt⟩
   have hcell:wr.cell? ⟨c,k,none⟩=some (.int .i64 n):=by
    rw [hK.cell hcB (by decide) hc];simp [World.cell?,hc,hp]
   have htk:ns.take (k+1)=ns.take k++[n]:=by rw [List.take_add_one,hp];simp
   have hlen:=Zah m (ns.take k);have hle:(ns.take k).length≤2:=by rw [List.length_take];omega
   have hBw:B<wr.heap.size:=by obtain ⟨_,hb,_⟩:=hW;exact hb.lt
   obtain ⟨o,mk,cv⟩:=make_conv m hm wr;have HP:Hid (∀ w,Calls Tryz.prog 167 #[.string (zeros m),.int .i64 0,.int .i64 m,.int .i64 n] w fun e w'=>e=.returned (.tuple #[.string (ZbL n m),.int .i64 0])∧Below w.heap.size w w'):=by
    intro w
    have:=callsIn_wide.1 (put_ok_in (zeros m) 0 m n w (by rw [zeros_size];omega) (by omega) (by omega) (by rw [zeros_size];omega))
    rwa [put_zeros] at this
   have HA:Hid (∀ w,Writes w B (l++Zad m (ns.take k))→Calls Tryz.prog 130 #[.pointer (some ⟨B,0,none⟩),.string (ZbL n m)] w fun e w'=>e=.returned (.tuple #[])∧Writes w' B (l++Zad m (ns.take (k+1)))∧ZaG B w w'):=by
    intro w hw
    have:=add_any B _ (ZbL n m) w hw (by have:=HL.out;rw [List.length_append,hlen,bytesN_size];rcases hm with rfl | rfl <;> omega)
    rwa [List.append_assoc,← numsBytes_snoc,← htk] at this
   generalize hE:ZbL n m=E at *;generalize zeros m=Z at *;clear hE;have HM:Hid (m=1∨m=2):=hm;clear hm hlen htk hp;go_wp2_with fail;refine (HP.out _).mono ?_;rintro e w2 ⟨rfl,b2⟩;have hb1:Below wr.heap.size wr w2:=((Below.refl _ wr).alloc (Nat.le_refl _) o).trans (b2.mono (by simp));have hW2:=hW.below hb1;go_wp2_with fail;refine (HA.out _ hW2).mono ?_;rintro e w3 ⟨rfl,hW3,hK3⟩;go_wp2;exact ⟨⟨k+1,by omega,by go_num,hW3,hK.trans ((ZaG.of_below hb1 (Nat.le_of_lt hBw)).trans hK3)⟩,by simp [intOf];omega⟩
  ·obtain rfl:k=ns.length:=by omega
   rw [List.take_length] at hW;go_wp2
   go_end0
   exact ⟨rfl,hW,hK⟩
end Go.Proofs.YtlpnfbpgnfappaaGreat
