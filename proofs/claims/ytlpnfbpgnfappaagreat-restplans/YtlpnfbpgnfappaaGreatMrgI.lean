/- Texts that are laid together. -/
import Derived.Test.YtlpnfbpgnfappaaGreatMrgH
import Derived.Laws.EntriesVeiled
import Derived.Test.YtlpnfbpgnfappaaGreatMrgF
import Derived.Test.YtlpnfbpgnfappaaGreatMrgC
import Derived.Lib.QuietBelow
import Derived.BigQuiet
import Derived.Test.YtlpnfbpgnfappaaGreatMrgG
import Derived.Test.YtlpnfbpgnfappaaGreatMrgB
set_option maxHeartbeats 256000000
set_option maxRecDepth 100000

namespace Go.Proofs.YtlpnfbpgnfappaaGreat
open Go.RowKit Go.PlainAid
def bErr (b:Bool):Int:=if b=false then 4 else 0
theorem chkReg_cases (L:List Plc):((if 8<L.length then 2 else ZaW Zbi L)≠0∧Zas L=(if 8<L.length then 2 else ZaW Zbi L))∨((if 8<L.length then 2 else ZaW Zbi L)=0∧(∀ p∈L,Zac p.mod=0∧0≤p.first∧p.first+szM p.mod≤16)∧Zas L=bErr (behind 0 L)):=by
 unfold Zas
 by_cases h8:8<L.length
 ·left
  simp [h8]
 ·rw [if_neg h8,if_neg h8]
  by_cases h:ZaW Zbi L=0
  ·right
   refine ⟨h,fun p hp=>?_,by rw [if_neg (by omega)];rfl⟩;obtain ⟨h1,h2⟩:=Zcm.1 h p hp;unfold Zbi at h2
   split at h2
   ·omega
   ·exact ⟨h1,by omega,by omega⟩
  ·left
   exact ⟨h,by rw [if_pos h]⟩
theorem regWrong_any (l:List PV) (v:Value) (w:World) (hrow:Zax w.heap.size w v l) (hfit:∀ x∈l,x.mod.fits) :
  Calls Tryz.prog 66 #[v] w fun e w'=>e=.returned (.int .i64 (Zas (l.map PV.plc)))∧Below w.heap.size w w':=by
 have HP:Hid (∀ (W:World) (t:TypeId),Below w.heap.size w W→Calls Tryz.prog 121 #[v,.slice (some ⟨W.heap.size,0,none⟩) 1 1] (W.alloc (.cells #[.func (.func 122) #[] #[]] t)) fun e w'=>e=.returned (.int .i64 (if 8<l.length then 2 else ZaW Zbi (l.map PV.plc)))∧Below (W.heap.size+1) (W.alloc (.cells #[.func (.func 122) #[] #[]] t)) w'):=by
  intro W t hb;have hb1:Below w.heap.size w (W.alloc (.cells #[.func (.func 122) #[] #[]] t)):=hb.alloc hb.size _
  have:=placedWrong_one l v W.heap.size 122 Zbi (W.alloc (.cells #[.func (.func 122) #[] #[]] t)) ((hrow.below hb1).more hb1.size) hfit (by simp) (by simp) (fun w x=>enters_of Tryz.func122 (by kernel_rfl) rfl _ w) (fun x hx h0 W' hb'=>outside_any x _ W' (((hrow.2 x hx).below hb1).more hb1.size |>.below hb') h0)
  refine this.mono ?_;rintro e w' ⟨rfl,b⟩;exact ⟨rfl,by simpa using b⟩
 have hat:=hrow.2;obtain ⟨⟨a,cap,rfl,hmax,hrow⟩,_⟩:=hrow;have key:=chkReg_cases (l.map PV.plc);rw [List.length_map] at key;have hall:(∀ p∈l.map PV.plc,Zac p.mod=0∧0≤p.first∧p.first+szM p.mod≤16)→∀ x∈l,x.mod.text.size≤256∧0≤x.first∧x.first+szM x.mod≤16:=by
  intro h x hx;obtain ⟨h1,h2,h3⟩:=h x.plc (List.mem_map_of_mem hx);exact ⟨(Zco h1).2.2.1,h2,h3⟩
 generalize Zas (l.map PV.plc)=R at *;generalize (if 8<l.length then (2:Int) else ZaW Zbi (l.map PV.plc))=cp at *
 go_enter Tryz.func66,Tryz.ntmps66
 go_wp2_with fail;refine (HP.out w _ (Below.refl _ _)).mono ?_;rintro e w2 ⟨rfl,b2⟩;have B2:=((Below.refl w.heap.size w).alloc (Nat.le_refl _) _).trans (b2.mono (by omega));clear HP b2
 rcases key with ⟨h0,rfl⟩ | ⟨rfl,h0,rfl⟩
 ·have h0':(R != 0)=true:=by simpa using h0
  clear hall hrow hat;go_wp2;go_ret;exact ⟨rfl,B2⟩
 ·have hx0:=hall h0
  clear hall h0;go_wp2_with fail
  go_loopw [4,15] (fun d i wr=>∃ (k:Nat) (e:Int),k≤l.length∧i=.int .i64 k∧d=.int .i64 e∧Hid (behind 0 (l.map PV.plc)=behind e ((l.drop k).map PV.plc))∧Below w.heap.size w wr) (fun _ i _=>l.length-(intOf i).toNat)
  case atStart=>exact ⟨0,0,Nat.zero_le _,rfl,rfl,by show behind 0 (l.map PV.plc)=behind 0 ((l.drop 0).map PV.plc);rfl,B2⟩
  case round=>
   obtain ⟨k,en,hk,rfl,rfl,HC,B⟩:=hrel
   by_cases hlt:k<l.length
   ·obtain ⟨x,hx⟩:∃ x,l[k]?=some x:=⟨_,List.getElem?_eq_getElem hlt⟩
    rcases hrow with h | ⟨b,off,rfl,hbn,hcells⟩
    ·subst h;simp at hlt
    have HR:Hid (behind 0 (l.map PV.plc)=(!decide (x.first<en) && behind (x.first+szM x.mod) ((l.drop (k+1)).map PV.plc))):=by
     show behind 0 (l.map PV.plc)=_
     rw [HC.out,drop_at hx];rfl
    have hxx:=hx0 x (List.mem_of_getElem? hx);have HS:Hid (∀ W,Calls Tryz.prog 65 #[x.modV] W fun e w'=>e=.returned (.int .i64 (szM x.mod:Int))∧Below W.heap.size W w'):=by
     intro W;obtain ⟨⟨pe,ke,e4,_⟩,⟨pi,ki,e5,_⟩,⟨pp,kp,e6,_⟩⟩:=hat x (List.mem_of_getElem? hx);unfold PV.modV;rw [e4,e5,e6];exact sectors_any _ _ _ _ _ _ _ _ _ _ _ _ _ _ hxx.1
    obtain ⟨⟨pe,ke,e4,_⟩,⟨pi,ki,e5,_⟩,⟨pp,kp,e6,_⟩⟩:=hat x (List.mem_of_getElem? hx);generalize hsz:szM x.mod=sz at *;obtain ⟨⟨N,ma,mi,T,es,is,ps⟩,ve,vi,vp,fi⟩:=x;dsimp only at e4 e5 e6;subst e4 e5 e6;have c0:=(B.cell (p:=⟨b,off+k*8+0,none⟩) hbn).trans (hcells k _ hx 0 (by omega));have c1:=(B.cell (p:=⟨b,off+k*8+1,none⟩) hbn).trans (hcells k _ hx 1 (by omega));have c2:=(B.cell (p:=⟨b,off+k*8+2,none⟩) hbn).trans (hcells k _ hx 2 (by omega));have c3:=(B.cell (p:=⟨b,off+k*8+3,none⟩) hbn).trans (hcells k _ hx 3 (by omega));have c4:=(B.cell (p:=⟨b,off+k*8+4,none⟩) hbn).trans (hcells k _ hx 4 (by omega));have c5:=(B.cell (p:=⟨b,off+k*8+5,none⟩) hbn).trans (hcells k _ hx 5 (by omega));have c6:=(B.cell (p:=⟨b,off+k*8+6,none⟩) hbn).trans (hcells k _ hx 6 (by omega));have c7:=(B.cell (p:=⟨b,off+k*8+7,none⟩) hbn).trans (hcells k _ hx 7 (by omega));dsimp only [PV.cell] at c0 c1 c2 c3 c4 c5 c6 c7;dsimp only [PV.modV] at HS;dsimp only at hxx HR;rw [Nat.add_zero] at c0;clear HC hcells hx hat hsz hx0;obtain ⟨_,hf0,hf1⟩:=hxx;generalize es.length=le at *;generalize is.length=li at *;generalize ps.length=lp at *;have C2:Za (wr.alloc (.cells #[.string N,.int .i64 ma,.int .i64 mi,.string T,.slice pe le ke,.slice pi li ki,.slice pp lp kp,.int .i64 fi] 57)) wr.heap.size 57 #[.string N,.int .i64 ma,.int .i64 mi,.string T,.slice pe le ke,.slice pi li ki,.slice pp lp kp,.int .i64 fi]:=Za.new _ _ _;have BB:Below w.heap.size w (wr.alloc (.cells #[.string N,.int .i64 ma,.int .i64 mi,.string T,.slice pe le ke,.slice pi li ki,.slice pp lp kp,.int .i64 fi] 57)):=B.alloc B.size _
    by_cases hb:fi<en
    ·have HZ:Hid (behind 0 (l.map PV.plc)=false):=by
      show behind 0 (l.map PV.plc)=false
      rw [HR.out,decide_eq_true hb];rfl
     clear HR HS C2;go_wp2;go_ret;exact ⟨by rw [HZ.out];rfl,BB⟩
    ·have hb':decide (fi<en)=false:=decide_eq_false hb
     have HZ:Hid (behind 0 (l.map PV.plc)=behind (fi+sz) ((l.drop (k+1)).map PV.plc)):=by
      show behind 0 (l.map PV.plc)=_
      rw [HR.out,hb'];rfl
     clear HR;have t0:=cell_regrown (C2.cell 0);have t1:=cell_regrown (C2.cell 1);have t2:=cell_regrown (C2.cell 2);have t3:=cell_regrown (C2.cell 3);have t4:=cell_regrown (C2.cell 4);have t5:=cell_regrown (C2.cell 5);have t6:=cell_regrown (C2.cell 6);have t7:=cell_regrown (C2.cell 7);clear C2;go_wp2_with fail;generalize wr.alloc (.cells #[.string N,.int .i64 ma,.int .i64 mi,.string T,.slice pe le ke,.slice pi li ki,.slice pp lp kp,.int .i64 fi] 57)=W1 at t0 t1 t2 t3 t4 t5 t6 t7 BB ⊢;have i1:IntKind.i64.wrap (fi+(sz:Int))=fi+(sz:Int):=by rw [i64_is];unfold wrap64;omega
     refine wp_region_quiet_below (by kernel_rfl) (by kernel_rfl) ?_
     repeat (quiet_step ((go_at_call 65;go_must (exact Calls.regrown_of (HS.out _)))))
     refine wpQuiet_nil ?_;intro _ hw';obtain ⟨⟨dq,osq⟩,hw''⟩:=hw';have B5:=BB.trans ((below_regrown W1 dq osq).mono BB.size);rw [← hw''] at B5;clear hw'' t0 t1 t2 t3 t4 t5 t6 t7 HS;go_wp2;exact ⟨⟨k+1,fi+sz,by omega,by go_num,by first | rfl | (rw [i1]),HZ.out,B5⟩,by simp [intOf];omega⟩
   ·obtain rfl:k=l.length:=by omega
    have HZ:Hid (behind 0 (l.map PV.plc)=true):=by
     show behind 0 (l.map PV.plc)=true
     rw [HC.out,List.drop_length];rfl
    go_wp2;go_ret;exact ⟨by rw [HZ.out];rfl,B⟩
theorem idxRun_any (l:List (Int × Int)) (v:Value) (K:FuncId) (c:Value) (hK:∀ w x,Sem.run Tryz.prog (callFunc K #[x,c]) w=.ok (.enter K #[x,c]) w) (p:Int × Int→Bool) (w:World) (hrow:Zal 2 Zbu w.heap.size w v l)
  (hp:∀ x∈l,∀ W,Below w.heap.size w W→Calls Tryz.prog K #[.agg #[.int .i64 x.1,.int .i64 x.2],c] W fun e W'=>e=.returned (.bool (p x))∧Below W.heap.size W W') :
  Calls Tryz.prog 93 #[v,.func (.func K) #[] #[c]] w fun e w'=>e=.returned (.int .i64 (Zag p 0 l))∧Below w.heap.size w w':=by
 obtain ⟨a,cap,rfl,_,hrow⟩:=hrow
 go_enter Tryz.func93,Tryz.ntmps93
 go_wp2
 go_loopw [8] (fun i wr=>∃ (k:Nat),k≤l.length∧i=.int .i64 k∧Hid (Zag p 0 l=Zag p k (l.drop k))∧Below w.heap.size w wr) (fun i _=>l.length-(intOf i).toNat)
 case atStart=>exact ⟨0,Nat.zero_le _,rfl,by show Zag p 0 l=Zag p 0 (l.drop 0);rfl,Below.refl _ _⟩
 case round=>
  obtain ⟨k,hk,rfl,HC,B⟩:=hrel
  by_cases hlt:k<l.length
  ·obtain ⟨x,hx⟩:∃ x,l[k]?=some x:=⟨_,List.getElem?_eq_getElem hlt⟩
   rcases hrow with h | ⟨b,off,rfl,hbn,hcells⟩
   ·subst h;simp at hlt
   have HP:=hp x (List.mem_of_getElem? hx);obtain ⟨nm,ps⟩:=x;have c0:=(B.cell (p:=⟨b,off+k*2+0,none⟩) hbn).trans (hcells k _ hx 0 (by omega));have c1:=(B.cell (p:=⟨b,off+k*2+1,none⟩) hbn).trans (hcells k _ hx 1 (by omega));dsimp only [Zbu] at c0 c1;rw [Nat.add_zero] at c0;have HR:Hid (Zag p 0 l=if p ⟨nm,ps⟩ then (k:Int) else Zag p (k+1) (l.drop (k+1))):=by
    show Zag p 0 l=_
    rw [HC.out,drop_at hx];rfl
   have HP':Hid (∀ W,Below w.heap.size w W→Calls Tryz.prog K #[.agg #[.int .i64 nm,.int .i64 ps],c] W fun e W'=>e=.returned (.bool (p ⟨nm,ps⟩))∧Below W.heap.size W W'):=HP;clear HC hcells hx HP;generalize p ⟨nm,ps⟩=t at HR HP';go_wp2_with fail;refine Calls.mono (HP'.out _ B) ?_;rintro e w2 ⟨rfl,b2⟩;have B2:=B.trans (b2.mono B.size);clear b2 HP' c0 c1
   cases t
   ·go_wp2
    exact ⟨⟨k+1,by omega,by go_num,HR.out,B2⟩,by simp [intOf];omega⟩
   ·go_wp2
    go_ret;exact ⟨by rw [HR.out];rfl,B2⟩
  ·obtain rfl:k=l.length:=by omega
   have HZ:Hid (Zag p 0 l = -1):=by
    show Zag p 0 l = -1
    rw [HC.out,List.drop_length];rfl
   go_wp2;go_ret;exact ⟨by rw [HZ.out];rfl,B⟩
theorem own_ne {W:World} {base:Nat} {e:TypeId} {size:Nat} {v:Value} {n:Nat} {xs:List Value} (h:W.ownsRow base e size v n xs):some W.heap.size≠v.ownBlock:=by
 rcases h.2 with ⟨rfl,_⟩ | ⟨g,cap,cur,rfl,hg,hc,_⟩
 ·simp [Value.ownBlock]
 ·have:=(Array.getElem?_eq_some_iff.1 hc).1
  simp [Value.ownBlock]
  omega
def ZbJ (L:List Plc):List (Int × Int):=if Zas L=0 then runsFrom 0 L else []
theorem freeRes_cases (L:List Plc):(Zas L≠0∧ZbJ L=[])∨(Zas L=0∧L.length≤8∧(∀ p∈L,p.mod.text.size≤256∧0≤p.first∧p.first+szM p.mod≤16)∧ZbJ L=runsFrom 0 L):=by
 unfold ZbJ
 by_cases h:Zas L=0
 ·right
  obtain ⟨h1,h2,h3⟩:=ZaO.1 h;refine ⟨h,h1,fun p hp=>?_,by rw [if_pos h]⟩
  have:=okPl_first h3 p hp
  exact ⟨(Zco (h2 p hp)).2.2.1,by omega,by omega⟩
 ·left
  exact ⟨h,by rw [if_neg h]⟩
theorem free_own (l:List PV) (v:Value) (w:World) (hrow:Zax w.heap.size w v l) (hfit:∀ x∈l,x.mod.fits) :
  Calls Tryz.prog 19 #[v] w fun e w'=>(∃ r,e=.returned (.tuple #[r,.int .i64 (Zas (l.map PV.plc))])∧Zal 2 Zbu w'.heap.size w' r (ZbJ (l.map PV.plc))∧w'.ownsRow w.heap.size 48 2 r (ZbJ (l.map PV.plc)).length ((ZbJ (l.map PV.plc)).flatMap runC))∧Below w.heap.size w w':=by
 have HW:Hid (∀ W,Below w.heap.size w W→Calls Tryz.prog 66 #[v] W fun e w'=>e=.returned (.int .i64 (Zas (l.map PV.plc)))∧Below W.heap.size W w'):=fun W hb=>regWrong_any l v W ((hrow.below hb).more hb.size) hfit;have hat:=hrow.2;obtain ⟨⟨a,cap,rfl,hmax,hrow⟩,_⟩:=hrow;have key:=freeRes_cases (l.map PV.plc);rw [List.length_map] at key;have hall:(∀ p∈l.map PV.plc,p.mod.text.size≤256∧0≤p.first∧p.first+szM p.mod≤16)→∀ x∈l,x.mod.text.size≤256∧0≤x.first∧x.first+szM x.mod≤16:=fun h x hx=>h x.plc (List.mem_map_of_mem hx)
 generalize Zas (l.map PV.plc)=R at *;generalize ZbJ (l.map PV.plc)=FR at *
 go_enter Tryz.func19,Tryz.ntmps19
 go_wp2_with fail;refine (HW.out w (Below.refl _ _)).mono ?_;rintro e w5 ⟨rfl,B5⟩;clear HW
 rcases key with ⟨h0,rfl⟩ | ⟨rfl,h8,h0,rfl⟩
 ·have h0':(R != 0)=true:=by simpa using h0
  clear hall hrow hat h0;go_wp2;go_ret2;exact ⟨⟨_,rfl,⟨none,0,rfl,by simp,.inl rfl⟩,World.ownsRow_nil _ _ _ _⟩,B5⟩
 ·have hx0:=hall h0
  clear hall h0;go_wp2_with fail
  go_loopw [5,6,16] (fun f d i wr=>∃ (k:Nat) (e:Int) (acc:List (Int × Int)),k≤l.length∧i=.int .i64 k∧d=.int .i64 e∧0≤e∧e≤16∧acc.length≤k∧wr.ownsRow w5.heap.size 48 2 f acc.length (acc.flatMap runC)∧Hid (runsFrom 0 (l.map PV.plc)=acc++runsFrom e ((l.drop k).map PV.plc))∧Below w5.heap.size w5 wr) (fun _ _ i _=>l.length-(intOf i).toNat)
  case atStart=>exact ⟨0,0,[],Nat.zero_le _,rfl,rfl,by omega,by omega,Nat.zero_le _,⟨rfl,.inl ⟨rfl,rfl⟩⟩,by show runsFrom 0 (l.map PV.plc)=[]++runsFrom 0 ((l.drop 0).map PV.plc);rfl,Below.refl _ _⟩
  case round=>
   obtain ⟨k,en,acc,hk,rfl,rfl,he0,he1,hal,hown,HC,B⟩:=hrel;have B':Below w.heap.size w wr:=B5.trans (B.mono B5.size);obtain ⟨av,kv,rfl⟩:=Zae hown
   by_cases hlt:k<l.length
   ·obtain ⟨x,hx⟩:∃ x,l[k]?=some x:=⟨_,List.getElem?_eq_getElem hlt⟩
    rcases hrow with h | ⟨b,off,rfl,hbn,hcells⟩
    ·subst h;simp at hlt
    have HR:Hid (runsFrom 0 (l.map PV.plc)=(acc++Zce en x.first)++runsFrom (x.first+szM x.mod) ((l.drop (k+1)).map PV.plc)):=by
     show runsFrom 0 (l.map PV.plc)=_
     rw [HC.out,drop_at hx,List.append_assoc];rfl
    have hxx:=hx0 x (List.mem_of_getElem? hx);have HS:Hid (∀ W,Calls Tryz.prog 65 #[x.modV] W fun e w'=>e=.returned (.int .i64 (szM x.mod:Int))∧Below W.heap.size W w'):=by
     intro W;obtain ⟨⟨pe,ke,e4,_⟩,⟨pi,ki,e5,_⟩,⟨pp,kp,e6,_⟩⟩:=hat x (List.mem_of_getElem? hx);unfold PV.modV;rw [e4,e5,e6];exact sectors_any _ _ _ _ _ _ _ _ _ _ _ _ _ _ hxx.1
    obtain ⟨⟨pe,ke,e4,_⟩,⟨pi,ki,e5,_⟩,⟨pp,kp,e6,_⟩⟩:=hat x (List.mem_of_getElem? hx);generalize hsz:szM x.mod=sz at *;obtain ⟨⟨N,ma,mi,T,es,is,ps⟩,ve,vi,vp,fi⟩:=x;dsimp only at e4 e5 e6;subst e4 e5 e6;have c0:=(B'.cell (p:=⟨b,off+k*8+0,none⟩) hbn).trans (hcells k _ hx 0 (by omega));have c1:=(B'.cell (p:=⟨b,off+k*8+1,none⟩) hbn).trans (hcells k _ hx 1 (by omega));have c2:=(B'.cell (p:=⟨b,off+k*8+2,none⟩) hbn).trans (hcells k _ hx 2 (by omega));have c3:=(B'.cell (p:=⟨b,off+k*8+3,none⟩) hbn).trans (hcells k _ hx 3 (by omega));have c4:=(B'.cell (p:=⟨b,off+k*8+4,none⟩) hbn).trans (hcells k _ hx 4 (by omega));have c5:=(B'.cell (p:=⟨b,off+k*8+5,none⟩) hbn).trans (hcells k _ hx 5 (by omega));have c6:=(B'.cell (p:=⟨b,off+k*8+6,none⟩) hbn).trans (hcells k _ hx 6 (by omega));have c7:=(B'.cell (p:=⟨b,off+k*8+7,none⟩) hbn).trans (hcells k _ hx 7 (by omega));dsimp only [PV.cell] at c0 c1 c2 c3 c4 c5 c6 c7;dsimp only [PV.modV] at HS;dsimp only at hxx HR;rw [Nat.add_zero] at c0;clear HC hcells hx hat hsz hx0;obtain ⟨_,hf0,hf1⟩:=hxx;generalize es.length=le at *;generalize is.length=li at *;generalize ps.length=lp at *;have C2:Hid (Za (wr.alloc (.cells #[.string N,.int .i64 ma,.int .i64 mi,.string T,.slice pe le ke,.slice pi li ki,.slice pp lp kp,.int .i64 fi] 57)) wr.heap.size 57 #[.string N,.int .i64 ma,.int .i64 mi,.string T,.slice pe le ke,.slice pi li ki,.slice pp lp kp,.int .i64 fi]):=Za.new _ _ _;have BB:Hid (Below w5.heap.size w5 (wr.alloc (.cells #[.string N,.int .i64 ma,.int .i64 mi,.string T,.slice pe le ke,.slice pi li ki,.slice pp lp kp,.int .i64 fi] 57))):=B.alloc B.size _;have HO:Hid ((wr.alloc (.cells #[.string N,.int .i64 ma,.int .i64 mi,.string T,.slice pe le ke,.slice pi li ki,.slice pp lp kp,.int .i64 fi] 57)).ownsRow w5.heap.size 48 2 (.slice av acc.length kv) acc.length (acc.flatMap runC)):=hown.alloc _;have HNE:Hid (some wr.heap.size≠(Value.slice av acc.length kv).ownBlock):=own_ne hown;have HL:Hid (acc.length≤16):=show acc.length≤16 by omega
    have HLK:Hid (acc.length≤k):=hal;clear hown;go_wp2_with fail;refine (gap_any acc en fi _ w5.heap.size _ HO.out BB.out.size HL.out ⟨he0,he1⟩ ⟨hf0,by omega⟩).mono ?_;rintro e w7 ⟨⟨r,rfl,O7⟩,hg⟩;have C7:=C2.out.kept hg HNE.out;have B7:Below w5.heap.size w5 w7:=BB.out.grown hg BB.out.size (fun j hj=>ZaP HO.out j hj);clear C2 BB HO HNE hg c0 c1 c2 c3 c4 c5 c6 c7;obtain ⟨ar,kr,rfl⟩:=Zae O7;have HL':Hid ((acc++Zce en fi).length≤k+1):=by
     show (acc++Zce en fi).length≤k+1
     have:=HLK.out
     unfold Zce
     split <;> simp <;> omega
    generalize acc++Zce en fi=acc' at *;have t0:=cell_regrown (C7.cell 0);have t1:=cell_regrown (C7.cell 1);have t2:=cell_regrown (C7.cell 2);have t3:=cell_regrown (C7.cell 3);have t4:=cell_regrown (C7.cell 4);have t5:=cell_regrown (C7.cell 5);have t6:=cell_regrown (C7.cell 6);have t7:=cell_regrown (C7.cell 7);clear C7;go_wp2_with fail;have i1:IntKind.i64.wrap (fi+(sz:Int))=fi+(sz:Int):=by rw [i64_is];unfold wrap64;omega
    refine wp_region_quiet_below (by kernel_rfl) (by kernel_rfl) ?_
    repeat (quiet_step ((go_at_call 65;go_must (exact Calls.regrown_of (HS.out _)))))
    refine wpQuiet_nil ?_;intro w8 hw';obtain ⟨⟨dq,osq⟩,hw''⟩:=hw';have b8:=below_regrown w7 dq osq;rw [← hw''] at b8;have O8:=own_below O7 b8;have B8:=B7.trans (b8.mono B7.size);clear hw'' t0 t1 t2 t3 t4 t5 t6 t7 HS O7 b8;go_wp2;exact ⟨⟨k+1,fi+sz,acc',by omega,by go_num,by first | rfl | (rw [i1]),by omega,by omega,HL'.out,O8,HR.out,B8⟩,by simp [intOf];omega⟩
   ·obtain rfl:k=l.length:=by omega
    have HZ:Hid (runsFrom 0 (l.map PV.plc)=acc++Zce en 16):=by
     show runsFrom 0 (l.map PV.plc)=_
     rw [HC.out,List.drop_length];rfl
    have hb5:w5.heap.size≤wr.heap.size:=B.size;have HO:=hown;have hl16:acc.length≤16:=by omega
    clear hx0;go_wp2_with fail;refine (gap_any acc en 16 _ w5.heap.size _ HO hb5 hl16 ⟨he0,he1⟩ ⟨by omega,by omega⟩).mono ?_;rintro e w7 ⟨⟨r,rfl,O7⟩,hg⟩;have B7:Below w5.heap.size w5 w7:=B.grown hg B.size (fun j hj=>ZaP HO j hj);obtain ⟨ar,kr,rfl⟩:=Zae O7;have HLN:Hid ((acc++Zce en 16).length≤9223372036854775807):=by
     show (acc++Zce en 16).length≤9223372036854775807
     unfold Zce
     split <;> simp <;> omega
    generalize acc++Zce en 16=acc' at *;clear HO hown;go_wp2;go_ret2;exact ⟨⟨_,rfl,by rw [HZ.out];exact ZbX (C:=runC) (cells:=Zbu) (sz:=2) (fun _=>rfl) runC_at O7 HLN.out,by rw [HZ.out];exact ZbR O7 B5.size⟩,B5.trans (B7.mono B5.size)⟩
theorem free_any (l:List PV) (v:Value) (w:World) (hrow:Zax w.heap.size w v l) (hfit:∀ x∈l,x.mod.fits) :
  Calls Tryz.prog 19 #[v] w fun e w'=>(∃ r,e=.returned (.tuple #[r,.int .i64 (Zas (l.map PV.plc))])∧Zal 2 Zbu w'.heap.size w' r (ZbJ (l.map PV.plc)))∧Below w.heap.size w w':=by
 refine (free_own l v w hrow hfit).mono ?_;rintro e w' ⟨⟨r,h1,h2,_⟩,hb⟩;exact ⟨⟨r,h1,h2⟩,hb⟩
def Zbp (L:List Plc) (many:Int):Int × Int:=if Zas L≠0 then (0,Zas L) else if many<1∨16<many then (0,3) else match Zch many (runsFrom 0 L) with | none=>(0,8) | some r=>(r.1,0)
theorem firstRes_cases (L:List Plc) (many:Int):(Zas L≠0∧Zbp L many=(0,Zas L))∨(Zas L=0∧many<1∧Zbp L many=(0,3))∨(Zas L=0∧1≤many∧16<many∧Zbp L many=(0,3))∨(Zas L=0∧1≤many∧many≤16∧ZbJ L=runsFrom 0 L∧Zbp L many=match Zch many (ZbJ L) with | none=>(0,8) | some r=>(r.1,0)):=by
 unfold Zbp
 by_cases h:Zas L=0
 ·right
  have h3:ZbJ L=runsFrom 0 L:=by unfold ZbJ;rw [if_pos h]
  rw [if_neg (by omega)]
  by_cases h1:many<1
  ·exact .inl ⟨h,h1,by rw [if_pos (.inl h1)]⟩
  ·by_cases h2:16<many
   ·exact .inr (.inl ⟨h,by omega,h2,by rw [if_pos (.inr h2)]⟩)
   ·refine .inr (.inr ⟨h,by omega,by omega,h3,?_⟩)
    rw [if_neg (by omega),h3]
 ·left
  exact ⟨h,by rw [if_pos h]⟩
theorem first1_any (x:Int × Int) (B:Nat) (many:Int) (w:World) (hB:B<w.heap.size) (hc:w.cell? ⟨B,0,none⟩=some (.int .i64 many)) :
  Calls Tryz.prog 94 #[.agg #[.int .i64 x.1,.int .i64 x.2],.pointer (some ⟨B,0,none⟩)] w fun e w'=>e=.returned (.bool (decide (many≤x.2)))∧Below w.heap.size w w':=by
 obtain ⟨a,b⟩:=x;dsimp only;have hc':(w.alloc (.cells #[.int .i64 a,.int .i64 b] 48)).cell? ⟨B,0,none⟩=some (.int .i64 many):=(((Below.refl w.heap.size w).alloc (Nat.le_refl _) _).cell (p:=⟨B,0,none⟩) hB).trans hc;generalize hd:decide (many≤b)=d
 go_enter Tryz.func94,Tryz.ntmps94
 go_wp2;go_ret;refine ⟨?_,(Below.refl _ _).alloc (Nat.le_refl _) _⟩
 first | rfl | (rw [← hd];rfl)
theorem first_any (l:List PV) (v:Value) (many:Int) (w:World) (hrow:Zax w.heap.size w v l) (hfit:∀ x∈l,x.mod.fits) :
  Calls Tryz.prog 39 #[v,.int .i64 many] w fun e w'=>e=.returned (.tuple #[.int .i64 (Zbp (l.map PV.plc) many).1,.int .i64 (Zbp (l.map PV.plc) many).2])∧Below w.heap.size w w':=by
 have HF:Hid (∀ W,Below w.heap.size w W→Calls Tryz.prog 19 #[v] W fun e w'=>(∃ r,e=.returned (.tuple #[r,.int .i64 (Zas (l.map PV.plc))])∧Zal 2 Zbu w'.heap.size w' r (ZbJ (l.map PV.plc)))∧Below W.heap.size W w'):=fun W hb=>free_any l v W ((hrow.below hb).more hb.size) hfit;have key:=firstRes_cases (l.map PV.plc) many;obtain ⟨⟨a,cap,rfl,hmax,hrow⟩,_⟩:=hrow;generalize runsFrom 0 (l.map PV.plc)=RF at *;generalize Zbp (l.map PV.plc) many=R at *;generalize Zas (l.map PV.plc)=c at *;generalize ZbJ (l.map PV.plc)=FR at *;clear hrow hfit;generalize l.length=ll at *;have HB:Hid (Below w.heap.size w (w.alloc (.cells #[.int .i64 many] 3))):=(Below.refl _ _).alloc (Nat.le_refl _) _;have HCA:Hid (Za (w.alloc (.cells #[.int .i64 many] 3)) w.heap.size 3 #[.int .i64 many]):=Za.new _ _ _
 go_enter Tryz.func39,Tryz.ntmps39
 go_wp2_with fail;refine (HF.out _ HB.out).mono ?_;rintro e w2 ⟨⟨r,rfl,hR⟩,b2⟩;have C2:=HCA.out.below b2 HCA.out.lt;have B2:=HB.out.trans (b2.mono HB.out.size);have t0:=C2.cell 0;simp at t0;have tz:=C2.lt;clear HF HB HCA b2 C2;have HRW:=hR;obtain ⟨ar,kr,rfl,hml,hR⟩:=hR
 rcases key with ⟨h0,rfl⟩ | ⟨rfl,h0,rfl⟩ | ⟨rfl,h0,h1,rfl⟩ | ⟨rfl,h0,h1,rfl,hm⟩
 ·have h0':(c != 0)=true:=by simpa using h0
  clear h0 hR HRW;go_wp2;go_ret2;exact ⟨rfl,B2⟩
 ·clear hR HRW
  go_wp2;go_ret2;exact ⟨rfl,B2⟩
 ·have h0':decide (many<1)=false:=decide_eq_false (by omega)
  clear hR HRW;go_wp2;go_ret2;exact ⟨rfl,B2⟩
 ·have h0':decide (many<1)=false:=decide_eq_false (by omega)
  have h1':decide (16<many)=false:=decide_eq_false (by omega);have HI:Hid (Calls Tryz.prog 93 #[.slice ar FR.length kr,.func (.func 94) #[] #[.pointer (some ⟨w.heap.size,0,none⟩)]] w2 fun e w'=>e=.returned (.int .i64 (Zag (fun r=>decide (many≤r.2)) 0 FR))∧Below w2.heap.size w2 w'):=
   idxRun_any FR _ 94 _ (fun w x=>enters_of Tryz.func94 (by kernel_rfl) rfl _ w) (fun r=>decide (many≤r.2)) w2 HRW (fun x hx W hb=>first1_any x w.heap.size many W (Nat.lt_of_lt_of_le tz hb.size) ((hb.cell (p:=⟨w.heap.size,0,none⟩) tz).trans t0))
  have hfi:=ix_find (fun r:Int × Int=>decide (many≤r.2)) FR 0;unfold Zch at hm;generalize Zag (fun r:Int × Int=>decide (many≤r.2)) 0 FR=ix at *;have HM:Hid (R=match FR.find? (fun r=>decide (many≤r.2)) with | none=>((0:Int),(8:Int)) | some r=>(r.1,0)):=hm;clear hm HRW
  rcases hfi with ⟨g1,rfl⟩ | ⟨j,x,g1,g2,rfl⟩
  ·have HM':R=(0,8):=by rw [HM.out,g1]
   subst HM';clear HM g1;go_wp2_with fail;refine HI.out.mono ?_;rintro e w3 ⟨rfl,b3⟩;have B3:=B2.trans (b3.mono B2.size);clear HI b3;go_wp2;go_ret2;exact ⟨rfl,B3⟩
  ·have HM':R=(x.1,0):=by rw [HM.out,g1]
   subst HM';clear HM g1;have hj:j<FR.length:=(List.getElem?_eq_some_iff.1 g2).1
   rcases hR with h | ⟨b,off,rfl,hbn,hcells⟩
   ·subst h;simp at hj
   have d0:=hcells j _ g2 0 (by omega);dsimp only [Zbu] at d0;rw [Nat.add_zero] at d0;have hjn:decide (((0+j:Nat):Int)<0)=false:=decide_eq_false (by omega);rw [Nat.zero_add] at HI hjn;clear hcells g2;go_wp2_with fail;refine HI.out.mono ?_;rintro e w3 ⟨rfl,b3⟩;have B3:=B2.trans (b3.mono B2.size);have d1:=(b3.cell (p:=⟨b,off+j*2,none⟩) hbn).trans d0;clear HI b3 d0 t0;go_wp2;go_ret2;exact ⟨rfl,B3⟩
theorem filled_any (s:ByteArray) (k:Nat) (w:World) (hk:k≤16) (hs:s.size≤64*k) :
  Calls Tryz.prog 166 #[.string s,.int .i64 k] w fun e w'=>e=.returned (.string (Zaz s (64*k)))∧Below w.heap.size w w':=by
 have HR:Hid (∀ W,Calls Tryz.prog 186 #[.string ⟨#[255]⟩,.int .i64 ((64*k-s.size:Nat):Int)] W fun e w'=>e=.returned (.string (blanks (64*k-s.size)))∧Below W.heap.size W w'):=fun W=>by
  have:=repeat_any ⟨#[255]⟩ (64*k-s.size) W (by omega) (by show 1*_≤_;omega)
  rw [repeat_blank] at this;exact this
 have HF:Hid (s++blanks (64*k-s.size)=Zaz s (64*k)):=(rfl:s++blanks (64*k-s.size)=Zaz s (64*k));have hbs:Hid ((blanks (64*k-s.size)).size≤1024):=by show (blanks (64*k-s.size)).size≤1024;rw [blanks_size];omega
 have i1:IntKind.i64.wrap ((k:Int)*64)=(k:Int)*64:=by rw [i64_is];unfold wrap64;omega
 have i2:IntKind.i64.wrap ((k:Int)*64-(s.size:Int))=((64*k-s.size:Nat):Int):=by rw [i64_is];unfold wrap64;omega
 generalize 64*k-s.size=n at *;generalize blanks n=b at *;generalize Zaz s (64*k)=f at *;have hb:=hbs.out;have hbig:¬ (9223372036854775807<s.size+b.size):=by omega
 clear hbs
 go_enter Tryz.func166,Tryz.ntmps166
 go_wp2_with fail;refine (HR.out _).mono ?_;rintro e w1 ⟨rfl,b1⟩;go_wp2;go_ret;exact ⟨by rw [HF.out];rfl,b1⟩
theorem pats_of {M:Mod} (h:Zac M=0):∀ p∈M.pats,-1≤p.sym∧p.sym<M.imps.length:=by
 have h1:Zbk M.text.size M.imps.length 0 M.pats=0:=by
  rcases chkMod_cases M with ⟨_,e⟩ | ⟨g1,⟨_,e⟩ | ⟨g2,⟨_,e⟩ | ⟨_,⟨_,e⟩ | ⟨_,t1,t2,t3,t4,⟨_,e⟩ | ⟨_,⟨_,e⟩ | ⟨_,⟨n,e⟩ | ⟨h7,⟨n,e⟩ | ⟨_,e⟩⟩⟩⟩⟩⟩⟩⟩
  all_goals first | omega | exact absurd (e ▸ h) n | exact e ▸ h
 have:∀ (l:List Pat) (e:Int),Zbk M.text.size M.imps.length e l=0→∀ p∈l,-1≤p.sym∧p.sym<M.imps.length:=by
  intro l
  induction l with
  | nil=>intro _ _ p hp;simp at hp
  | cons x l ih=>
   intro e h0 p hp;unfold Zbk at h0
   by_cases hx:Zcq M.text.size M.imps.length e x=0
   ·rw [if_pos hx] at h0
    rcases List.mem_cons.1 hp with rfl | hp
    ·obtain ⟨K,A,S,D⟩:=p
     rcases patErr_cases M.text.size M.imps.length e K A S D with ⟨_,q⟩ | ⟨_,⟨_,q⟩ | ⟨_,_,q⟩ | ⟨_,_,_,q⟩ | ⟨_,_,_,_,q⟩ | ⟨a,b,_⟩⟩
     all_goals first | (rw [hx] at q;exact absurd q (by decide)) | exact ⟨a,b⟩
    ·exact ih _ h0 p hp
   ·rw [if_neg hx] at h0
    exact absurd h0 hx
 exact this _ _ h1
theorem lnPatched_any (x:PV) (ads:List Int) (va:Value) (w:World) (hx:ZbH w.heap.size w x) (hr:Zal 1 ZbF w.heap.size w va ads) (hm0:Zac x.mod=0) (hal:ads.length=x.mod.imps.length) (f0:0≤x.first) (f1:x.first≤15) :
  Calls Tryz.prog 207 #[.agg #[.string x.mod.name,.int .i64 x.mod.major,.int .i64 x.mod.minor,.string x.mod.text,x.ve,x.vi,x.vp,.int .i64 x.first,va]] w fun e w'=>e=.returned (.tuple #[.string (patd ads (4096+x.first*64) x.mod.text x.mod.pats).1,.int .i64 (patd ads (4096+x.first*64) x.mod.text x.mod.pats).2])∧Below w.heap.size w w':=by
 have hps:=pats_of hm0;have hT:x.mod.text.size≤256:=(Zbl hm0).2.1;have h12:x.mod.pats.length≤12:=(Zbl hm0).2.2.2.2.1;have h6:x.mod.imps.length≤6:=(Zbl hm0).2.2.2.1;have HAD:Hid (∀ W,Calls Tryz.prog 172 #[.int .i64 x.first] W fun e w'=>e=.returned (.int .i64 (4096+x.first*64))∧w'=W):=fun W=>addr_any x.first W f0 f1
 have hbeg:Hid (0≤4096+x.first*64∧4096+x.first*64≤6000):=show 0≤4096+x.first*64∧4096+x.first*64≤6000 by omega
 obtain ⟨⟨pe,ke,e4,_⟩,⟨pi,ki,e5,_⟩,⟨pp,kp,e6,_,hP⟩⟩:=hx;obtain ⟨pa,ka,rfl,_,hA⟩:=hr;obtain ⟨⟨N,ma,mi,T,es,is,ps⟩,ve,vi,vp,fi⟩:=x;dsimp only at *;subst e4 e5 e6;generalize 4096+fi*64=bg at *;generalize es.length=le at *;rw [← hal] at hps h6;generalize is.length=li at *;clear hm0 hal;have HPN:Hid (∀ s,patd ads bg s []=(s,0)):=fun _=>rfl;have HPC:Hid (∀ s p r,patd ads bg s (p::r)=if ZaJ s.size p (symOf ads bg p) bg≠0 then (⟨#[]⟩,ZaJ s.size p (symOf ads bg p) bg) else patd ads bg (Zbm s p (symOf ads bg p) bg) r):=fun _ _ _=>rfl;generalize patd ads bg=PD at *;have B1:Below w.heap.size w (w.alloc (.cells #[.string N,.int .i64 ma,.int .i64 mi,.string T,.slice pe le ke,.slice pi li ki,.slice pp ps.length kp,.int .i64 fi,.slice pa ads.length ka] 210)):=(Below.refl _ _).alloc (Nat.le_refl _) _;have C1:Za (w.alloc (.cells #[.string N,.int .i64 ma,.int .i64 mi,.string T,.slice pe le ke,.slice pi li ki,.slice pp ps.length kp,.int .i64 fi,.slice pa ads.length ka] 210)) w.heap.size 210 #[.string N,.int .i64 ma,.int .i64 mi,.string T,.slice pe le ke,.slice pi li ki,.slice pp ps.length kp,.int .i64 fi,.slice pa ads.length ka]:=Za.new _ _ _
 go_enter Tryz.func207,Tryz.ntmps207
 go_wp2_with fail
 go_quiet ((go_at_call 172;go_must (refine Calls.quiet_of_same (HAD.out _))))
 have B2:=below_drewN B1 nq;have C2:=C1.below (below_drewN (Below.refl (w.heap.size+1) (w.alloc (.cells #[.string N,.int .i64 ma,.int .i64 mi,.string T,.slice pe le ke,.slice pi li ki,.slice pp ps.length kp,.int .i64 fi,.slice pa ads.length ka] 210))) nq) (Nat.lt_succ_self _);generalize (w.alloc (.cells #[.string N,.int .i64 ma,.int .i64 mi,.string T,.slice pe le ke,.slice pi li ki,.slice pp ps.length kp,.int .i64 fi,.slice pa ads.length ka] 210)).drewN nq=w2 at *;clear B1 C1 HAD;have e6:=C2.cell 6;simp at e6;go_wp2_with fail
 go_loopw [4,23] (fun f i wr=>∃ (k:Nat) (S:ByteArray),k≤ps.length∧i=.int .i64 k∧f=.string S∧Hid (S.size=T.size)∧Hid (PD T ps=PD S (ps.drop k))∧Below w2.heap.size w2 wr) (fun _ i _=>ps.length-(intOf i).toNat)
 case atStart=>exact ⟨0,T,Nat.zero_le _,rfl,rfl,(rfl:T.size=T.size),(by show PD T ps=PD T (ps.drop 0);rfl),Below.refl _ _⟩
 case round=>
  obtain ⟨k,S,hk,rfl,rfl,HSZ,HCC,B⟩:=hrel;have B':Below w.heap.size w wr:=B2.trans (B.mono B2.size)
  by_cases hlt:k<ps.length
  ·obtain ⟨x,hx⟩:∃ x,ps[k]?=some x:=⟨_,List.getElem?_eq_getElem hlt⟩
   rcases hP with h | ⟨b,off,rfl,hbn,hcells⟩
   ·subst h;simp at hlt
   have c0:=(B'.cell (p:=⟨b,off+k*4+0,none⟩) hbn).trans (hcells k _ hx 0 (by omega));have c1:=(B'.cell (p:=⟨b,off+k*4+1,none⟩) hbn).trans (hcells k _ hx 1 (by omega));have c2:=(B'.cell (p:=⟨b,off+k*4+2,none⟩) hbn).trans (hcells k _ hx 2 (by omega));have c3:=(B'.cell (p:=⟨b,off+k*4+3,none⟩) hbn).trans (hcells k _ hx 3 (by omega));have HR:Hid (PD T ps=if ZaJ S.size x (symOf ads bg x) bg≠0 then (⟨#[]⟩,ZaJ S.size x (symOf ads bg x) bg) else PD (Zbm S x (symOf ads bg x) bg) (ps.drop (k+1))):=by
    show PD T ps=_
    rw [HCC.out,drop_at hx,HPC.out]
   have HAX:Hid (∀ sy W,Calls Tryz.prog 229 #[.string S,.agg #[.int .i64 x.kind,.int .i64 x.pos,.int .i64 x.sym,.int .i64 x.add],.int .i64 sy,.int .i64 bg] W fun e w'=>e=.returned (.tuple #[.string (Zbm S x sy bg),.int .i64 (ZaJ S.size x sy bg)])∧Below W.heap.size W w'):=fun sy W=>apply_any S x sy bg W (by rw [HSZ.out];omega);have HSS:Hid (∀ sy,ZaJ S.size x sy bg=0→(Zbm S x sy bg).size=T.size):=fun sy h=>by rw [appStr_size h,HSZ.out]
   obtain ⟨hs1,hs2⟩:=hps x (List.mem_of_getElem? hx);have HSY:Hid (∃ sy:Int,symOf ads bg x=sy∧((0≤x.sym∧∃ n:Nat,x.sym=n∧ads[n]?=some sy)∨(x.sym<0∧sy=bg))):=by
    refine ⟨_,rfl,?_⟩;unfold symOf
    by_cases h0:0≤x.sym
    ·refine .inl ⟨h0,x.sym.toNat,by omega,?_⟩
     rw [if_pos h0,List.getElem?_eq_getElem (by omega)]
     rfl
    ·exact .inr ⟨by omega,by rw [if_neg h0]⟩
   obtain ⟨sy,hsy,hcase⟩:=HSY.out;have HR':Hid (PD T ps=if ZaJ S.size x sy bg≠0 then (⟨#[]⟩,ZaJ S.size x sy bg) else PD (Zbm S x sy bg) (ps.drop (k+1))):=by
    show PD T ps=_
    rw [HR.out,hsy]
   have HAX':Hid (∀ W,Calls Tryz.prog 229 #[.string S,.agg #[.int .i64 x.kind,.int .i64 x.pos,.int .i64 x.sym,.int .i64 x.add],.int .i64 sy,.int .i64 bg] W fun e w'=>e=.returned (.tuple #[.string (Zbm S x sy bg),.int .i64 (ZaJ S.size x sy bg)])∧Below W.heap.size W w'):=HAX.out sy;have HSS':Hid (ZaJ S.size x sy bg=0→(Zbm S x sy bg).size=T.size):=HSS.out sy;have HHY:Hid (S.size=T.size):=HSZ;have CB:=C2.below B C2.lt;have d8:=CB.cell 8;simp at d8;have hwl:w.heap.size<wr.heap.size:=CB.lt;clear HR HAX HSS HSY hsy HCC hcells hps HSZ HPN HPC CB e6;generalize ZaJ S.size x sy bg=er at *;generalize Zbm S x sy bg=S' at *;obtain ⟨xk,xp,xs,xa⟩:=x;dsimp only [Pat.cell] at c0 c1 c2 c3;dsimp only at *;rw [Nat.add_zero] at c0;have HB6:Hid (Below w2.heap.size w2 (wr.alloc (.cells #[.int .i64 xk,.int .i64 xp,.int .i64 xs,.int .i64 xa] 113))):=B.alloc B.size _
   rcases hcase with ⟨h0,n,rfl,hn⟩ | ⟨h0,rfl⟩
   ·rcases hA with h | ⟨ba,offa,rfl,hba,hca⟩
    ·subst h;simp at hn
    have hnl:n<ads.length:=by omega
    have d9:=(B'.cell (p:=⟨ba,offa+n*1+0,none⟩) hba).trans (hca n _ hn 0 (by omega));dsimp only [ZbF] at d9;rw [Nat.add_zero,Nat.mul_one] at d9;have hba2:ba<wr.heap.size:=Nat.lt_of_lt_of_le hba B'.size;clear hca hn;go_wp2_with fail;refine (HAX'.out _).mono ?_;rintro e w7 ⟨rfl,b7⟩;have E7:=HB6.out.trans (b7.mono HB6.out.size);have F7:=B2.trans (E7.mono B2.size)
    by_cases hq:er=0
    ·subst hq
     have HR2:Hid (PD T ps=PD S' (ps.drop (k+1))):=by
      show PD T ps=_
      rw [HR'.out];rfl
     have HS2:Hid (S'.size=T.size):=HSS'.out rfl;clear HR' HSS';go_wp2;exact ⟨⟨k+1,S',by omega,by go_num,rfl,HS2,HR2,E7⟩,by simp [intOf];omega⟩
    ·have hq':(er != 0)=true:=by simpa using hq
     have HR2:Hid (PD T ps=(⟨#[]⟩,er)):=by
      show PD T ps=_
      rw [HR'.out,if_pos hq]
     clear HR' HSS' hq;go_wp2;go_ret2;exact ⟨by rw [HR2.out];rfl,F7⟩
   ·go_wp2_with fail
    refine (HAX'.out _).mono ?_;rintro e w7 ⟨rfl,b7⟩;have E7:=HB6.out.trans (b7.mono HB6.out.size);have F7:=B2.trans (E7.mono B2.size)
    by_cases hq:er=0
    ·subst hq
     have HR2:Hid (PD T ps=PD S' (ps.drop (k+1))):=by
      show PD T ps=_
      rw [HR'.out];rfl
     have HS2:Hid (S'.size=T.size):=HSS'.out rfl;clear HR' HSS';go_wp2;exact ⟨⟨k+1,S',by omega,by go_num,rfl,HS2,HR2,E7⟩,by simp [intOf];omega⟩
    ·have hq':(er != 0)=true:=by simpa using hq
     have HR2:Hid (PD T ps=(⟨#[]⟩,er)):=by
      show PD T ps=_
      rw [HR'.out,if_pos hq]
     clear HR' HSS' hq;go_wp2;go_ret2;exact ⟨by rw [HR2.out];rfl,F7⟩
  ·obtain rfl:k=ps.length:=by omega
   have HZ:Hid (PD T ps=(S,0)):=by
    show PD T ps=(S,0)
    rw [HCC.out,List.drop_length,HPN.out]
   go_wp2;go_ret2;exact ⟨by rw [HZ.out];rfl,B'⟩
def lnRes (ads:List Int) (p:Plc):ByteArray × Int:=
 if (patd ads (4096+p.first*64) p.mod.text p.mod.pats).2≠0 then (⟨#[]⟩,(patd ads (4096+p.first*64) p.mod.text p.mod.pats).2)
 else (Zaz (patd ads (4096+p.first*64) p.mod.text p.mod.pats).1 (64*szM p.mod),0)
theorem imgRes_ln (K:Ker) (L:List Plc) (p:Plc):ZaY K L p=if (ZaK K L p.mod).2≠0 then (⟨#[]⟩,(ZaK K L p.mod).2) else lnRes (ZaK K L p.mod).1 p:=rfl
theorem addrsFrom_length {K:Ker} {L:List Plc}:∀ {is:List Imp} {acc:List Int},(ZaF K L acc is).2=0→(ZaF K L acc is).1.length=acc.length+is.length
 | [],acc,_=>rfl
 | i::r,acc,h=>by
  unfold ZaF at h ⊢
  by_cases h0:(addrOf K L i).2=0
  ·rw [if_neg (by omega)] at h ⊢
   rw [addrsFrom_length h,List.length_append,List.length_cons]
   simp
   omega
  ·rw [if_pos h0] at h
   exact absurd h h0
theorem allRes_length {K:Ker} {L:List Plc} {M:Mod} (h:(ZaK K L M).2=0):(ZaK K L M).1.length=M.imps.length:=by
 rcases allRes_cases K L M with ⟨h1,e⟩ | ⟨_,h1,e⟩ | ⟨_,_,e⟩
 ·rw [e] at h;exact absurd h h1
 ·rw [e] at h;exact absurd h h1
 ·rw [e] at h ⊢
  rw [addrsFrom_length h]
  simp
theorem lnImage_any (x:PV) (ads:List Int) (va:Value) (w:World) (hx:ZbH w.heap.size w x) (hf:x.mod.fits) (hr:Zal 1 ZbF w.heap.size w va ads) (hm0:Zac x.mod=0) (hal:ads.length=x.mod.imps.length) (f0:0≤x.first) (f1:x.first≤15) :
  Calls Tryz.prog 185 #[.agg #[.string x.mod.name,.int .i64 x.mod.major,.int .i64 x.mod.minor,.string x.mod.text,x.ve,x.vi,x.vp,.int .i64 x.first,va]] w fun e w'=>e=.returned (.tuple #[.string (lnRes ads x.plc).1,.int .i64 (lnRes ads x.plc).2])∧Below w.heap.size w w':=by
 have HS:Hid (∀ W,Below w.heap.size w W→Calls Tryz.prog 18 #[x.modV] W fun e w'=>e=.returned (.tuple #[.int .i64 (szM x.mod:Int),.int .i64 0])∧Below W.heap.size W w'):=fun W hb=>by
  have:=size_any x.mod x.modV W (((hx.below hb).more hb.size).isMod) hf
  rw [if_pos hm0,hm0] at this;exact this
 have HP:Hid (∀ W,Below w.heap.size w W→Calls Tryz.prog 207 #[.agg #[.string x.mod.name,.int .i64 x.mod.major,.int .i64 x.mod.minor,.string x.mod.text,x.ve,x.vi,x.vp,.int .i64 x.first,va]] W fun e w'=>e=.returned (.tuple #[.string (patd ads (4096+x.first*64) x.mod.text x.mod.pats).1,.int .i64 (patd ads (4096+x.first*64) x.mod.text x.mod.pats).2])∧Below W.heap.size W w'):=
  fun W hb=>lnPatched_any x ads va W ((hx.below hb).more hb.size) ((hr.below hb).more hb.size) hm0 hal f0 f1
 have HSZ:Hid ((patd ads (4096+x.first*64) x.mod.text x.mod.pats).2=0→(patd ads (4096+x.first*64) x.mod.text x.mod.pats).1.size≤64*szM x.mod):=fun h=>by
  rw [patd_size h];exact szM_le _
 have hk:szM x.mod≤4:=(Zco hm0).2.1;have key:lnRes ads x.plc=if (patd ads (4096+x.first*64) x.mod.text x.mod.pats).2≠0 then (⟨#[]⟩,(patd ads (4096+x.first*64) x.mod.text x.mod.pats).2) else (Zaz (patd ads (4096+x.first*64) x.mod.text x.mod.pats).1 (64*szM x.mod),0):=rfl;generalize lnRes ads x.plc=R at *;generalize patd ads (4096+x.first*64) x.mod.text x.mod.pats=pd at *;generalize szM x.mod=n at *;obtain ⟨⟨pe,ke,e4,_⟩,⟨pi,ki,e5,_⟩,⟨pp,kp,e6,_,_⟩⟩:=hx;obtain ⟨pa,ka,rfl,_,_⟩:=hr;obtain ⟨⟨N,ma,mi,T,es,is,ps⟩,ve,vi,vp,fi⟩:=x;dsimp only [PV.modV] at *;subst e4 e5 e6;clear hm0 hal hf;generalize es.length=le at *;generalize is.length=li at *;generalize ps.length=lp at *;generalize ads.length=la at *;obtain ⟨S,er⟩:=pd;dsimp only at *;have B1:Below w.heap.size w (w.alloc (.cells #[.string N,.int .i64 ma,.int .i64 mi,.string T,.slice pe le ke,.slice pi li ki,.slice pp lp kp,.int .i64 fi,.slice pa la ka] 210)):=(Below.refl _ _).alloc (Nat.le_refl _) _;have C1:Za (w.alloc (.cells #[.string N,.int .i64 ma,.int .i64 mi,.string T,.slice pe le ke,.slice pi li ki,.slice pp lp kp,.int .i64 fi,.slice pa la ka] 210)) w.heap.size 210 #[.string N,.int .i64 ma,.int .i64 mi,.string T,.slice pe le ke,.slice pi li ki,.slice pp lp kp,.int .i64 fi,.slice pa la ka]:=Za.new _ _ _
 go_enter Tryz.func185,Tryz.ntmps185
 go_wp2_with fail;refine (HS.out _ B1).mono ?_;rintro e w2 ⟨rfl,b2⟩;have B2:=B1.trans (b2.mono B1.size);have C2:=C1.below b2 C1.lt;clear b2 C1 HS B1;have c0:=C2.cell 0;have c1:=C2.cell 1;have c2:=C2.cell 2;have c3:=C2.cell 3;have c4:=C2.cell 4;have c5:=C2.cell 5;have c6:=C2.cell 6;have c7:=C2.cell 7;have c8:=C2.cell 8;have hlt:=C2.lt;simp at c0 c1 c2 c3 c4 c5 c6 c7 c8;go_wp2_with fail;refine (HP.out _ B2).mono ?_;rintro e w3 ⟨rfl,b3⟩;have B3:=B2.trans (b3.mono B2.size);clear HP c0 c1 c2 c3 c4 c5 c6 c7 c8 hlt C2
 by_cases hq:er=0
 ·subst hq
  have HF:Hid (∀ W,Calls Tryz.prog 166 #[.string S,.int .i64 n] W fun e w'=>e=.returned (.string (Zaz S (64*n)))∧Below W.heap.size W w'):=fun W=>filled_any S n W (by omega) (HSZ.out rfl);have HR:Hid (R=(Zaz S (64*n),0)):=by
   show R=_
   rw [key];rfl
  clear key HSZ;generalize Zaz S (64*n)=F at *;go_wp2_with fail;refine (HF.out _).mono ?_;rintro e w4 ⟨rfl,b4⟩;have B4:=B3.trans (b4.mono B3.size);go_wp2;go_ret2;exact ⟨by rw [HR.out];rfl,B4⟩
 ·have HR:Hid (R=(⟨#[]⟩,er)):=by
   show R=_
   rw [key,if_pos hq]
  have hq':(er != 0)=true:=by simpa using hq
  clear key HSZ hq;go_wp2;go_ret2;exact ⟨by rw [HR.out];rfl,B3⟩
theorem lnOne_any (K:Ker) (vk:Value) (l:List PV) (v:Value) (x:PV) (w:World) (hK:Zcd w.heap.size w vk K) (hf:K.fits) (hrow:Zax w.heap.size w v l) (hfit:∀ x∈l,x.mod.fits) (hx:ZbH w.heap.size w x) (hxf:x.mod.fits) (hm0:Zac x.mod=0) (f0:0≤x.first) (f1:x.first≤15) :
  Calls Tryz.prog 165 #[vk,v,x.val] w fun e w'=>e=.returned (.tuple #[.string (ZaY K (l.map PV.plc) x.plc).1,.int .i64 (ZaY K (l.map PV.plc) x.plc).2])∧Below w.heap.size w w':=by
 have HA:Hid (∀ W,Below w.heap.size w W→Calls Tryz.prog 32 #[vk,v,x.modV] W fun e w'=>(∃ r,e=.returned (.tuple #[r,.int .i64 (ZaK K (l.map PV.plc) x.mod).2])∧Zal 1 ZbF w'.heap.size w' r (ZaK K (l.map PV.plc) x.mod).1)∧Below W.heap.size W w'):=
  fun W hb=>all_any K vk l v x.mod x.modV W ((hK.below hb).more hb.size) hf ((hrow.below hb).more hb.size) hfit (((hx.below hb).more hb.size).isMod) hxf
 have HI:Hid (∀ ads va W,Below w.heap.size w W→Zal 1 ZbF W.heap.size W va ads→ads.length=x.mod.imps.length→Calls Tryz.prog 185 #[.agg #[.string x.mod.name,.int .i64 x.mod.major,.int .i64 x.mod.minor,.string x.mod.text,x.ve,x.vi,x.vp,.int .i64 x.first,va]] W fun e w'=>e=.returned (.tuple #[.string (lnRes ads x.plc).1,.int .i64 (lnRes ads x.plc).2])∧Below W.heap.size W w'):=
  fun ads va W hb hr hal=>lnImage_any x ads va W ((hx.below hb).more hb.size) hxf hr hm0 hal f0 f1
 have key:=imgRes_ln K (l.map PV.plc) x.plc;have HL:Hid ((ZaK K (l.map PV.plc) x.mod).2=0→(ZaK K (l.map PV.plc) x.mod).1.length=x.mod.imps.length):=fun h=>allRes_length h
 change _=if (ZaK K (l.map PV.plc) x.mod).2≠0 then (⟨#[]⟩,(ZaK K (l.map PV.plc) x.mod).2) else lnRes (ZaK K (l.map PV.plc) x.mod).1 x.plc at key
 generalize ZaY K (l.map PV.plc) x.plc=R at *;generalize ZaK K (l.map PV.plc) x.mod=ar at *;obtain ⟨vke,rfl,hE⟩:=hK;obtain ⟨qe,je,rfl,_,_⟩:=hE;obtain ⟨⟨a,cap,rfl,_,_⟩,_⟩:=hrow;have HN:Hid (∀ ads,lnRes ads x.plc=lnRes ads x.plc):=fun _=>rfl;generalize (fun ads=>lnRes ads x.plc)=LR at *;obtain ⟨⟨pe,ke,e4,_⟩,⟨pi,ki,e5,_⟩,⟨pp,kp,e6,_,_⟩⟩:=hx;obtain ⟨⟨N,xa,xi,T,es,is,ps⟩,ve,vi,vp,fi⟩:=x;obtain ⟨ma,mi,ks⟩:=K;dsimp only [PV.modV,PV.val] at *;subst e4 e5 e6;clear hm0 hf hxf hfit HN;generalize es.length=le at *;generalize is.length=li at *;generalize ps.length=lp at *;generalize ks.length=lk at *;generalize l.length=ll at *;obtain ⟨ads,er⟩:=ar;dsimp only at *;have B1:Below w.heap.size w ((w.alloc (.cells #[.int .i64 ma,.int .i64 mi,.slice qe lk je] 24)).alloc (.cells #[.string N,.int .i64 xa,.int .i64 xi,.string T,.slice pe le ke,.slice pi li ki,.slice pp lp kp,.int .i64 fi] 57)):=((Below.refl _ _).alloc (Nat.le_refl _) _).alloc (by simp) _;have C1:Za ((w.alloc (.cells #[.int .i64 ma,.int .i64 mi,.slice qe lk je] 24)).alloc (.cells #[.string N,.int .i64 xa,.int .i64 xi,.string T,.slice pe le ke,.slice pi li ki,.slice pp lp kp,.int .i64 fi] 57)) (w.heap.size+1) 57 #[.string N,.int .i64 xa,.int .i64 xi,.string T,.slice pe le ke,.slice pi li ki,.slice pp lp kp,.int .i64 fi]:=by
  have:=Za.new (w.alloc (.cells #[.int .i64 ma,.int .i64 mi,.slice qe lk je] 24)) 57 #[.string N,.int .i64 xa,.int .i64 xi,.string T,.slice pe le ke,.slice pi li ki,.slice pp lp kp,.int .i64 fi]
  rw [World.size_alloc] at this;exact this
 go_enter Tryz.func165,Tryz.ntmps165
 go_wp2_with fail;refine (HA.out _ B1).mono ?_;rintro e w2 ⟨⟨r,rfl,hr⟩,b2⟩;have B2:=B1.trans (b2.mono B1.size);have C2:=C1.below b2 C1.lt;clear b2 C1 HA B1
 by_cases hq:er=0
 ·subst hq
  have hal:=HL.out rfl;have HR:Hid (R=lnRes ads ⟨⟨N,xa,xi,T,es,is,ps⟩,fi⟩):=by
   show R=_
   rw [key];rfl
  clear key HL;have c0:=C2.cell 0;have c1:=C2.cell 1;have c2:=C2.cell 2;have c3:=C2.cell 3;have c4:=C2.cell 4;have c5:=C2.cell 5;have c6:=C2.cell 6;have c7:=C2.cell 7;have hlt:=C2.lt;simp at c0 c1 c2 c3 c4 c5 c6 c7;have HI':Hid (∀ W,Below w2.heap.size w2 W→Calls Tryz.prog 185 #[.agg #[.string N,.int .i64 xa,.int .i64 xi,.string T,.slice pe le ke,.slice pi li ki,.slice pp lp kp,.int .i64 fi,r]] W fun e w'=>e=.returned (.tuple #[.string R.1,.int .i64 R.2])∧Below W.heap.size W w'):=fun W hb=>by
   rw [HR.out];exact HI.out ads r W (B2.trans (hb.mono B2.size)) ((hr.below hb).more hb.size) hal
  obtain ⟨ra,rk,rfl,_,_⟩:=hr;clear HI HR hal;obtain ⟨R1,R2⟩:=R;dsimp only at *;go_wp2_with fail;refine (HI'.out _ (Below.refl _ _)).mono ?_;rintro e w3 ⟨rfl,b3⟩;have B3:=B2.trans (b3.mono B2.size);go_wp2;go_ret2;exact ⟨rfl,B3⟩
 ·have HR:Hid (R=(⟨#[]⟩,er)):=by
   show R=_
   rw [key,if_pos hq]
  have hq':(er != 0)=true:=by simpa using hq
  clear key HL hq HI;obtain ⟨ra,rk,rfl,_,_⟩:=hr;go_wp2;go_ret2;exact ⟨by rw [HR.out];rfl,B2⟩
theorem lnWrong_any (K:Ker) (vk:Value) (l:List PV) (v:Value) (w:World) (hK:Zcd w.heap.size w vk K) (hf:K.fits) (hrow:Zax w.heap.size w v l) (hfit:∀ x∈l,x.mod.fits) :
  Calls Tryz.prog 164 #[vk,v] w fun e w'=>e=.returned (.int .i64 (ZaA K (l.map PV.plc)))∧Below w.heap.size w w':=by
 have HC:Hid (∀ W,Below w.heap.size w W→Calls Tryz.prog 72 #[vk] W fun e w'=>e=.returned (.int .i64 (ZaS K))∧Below W.heap.size W w'):=fun W hb=>kernel_any K vk W ((hK.below hb).more hb.size) hf;have HF:Hid (∀ W,Below w.heap.size w W→Calls Tryz.prog 19 #[v] W fun e w'=>(∃ r,e=.returned (.tuple #[r,.int .i64 (Zas (l.map PV.plc))])∧Zal 2 Zbu w'.heap.size w' r (ZbJ (l.map PV.plc)))∧Below W.heap.size W w'):=fun W hb=>free_any l v W ((hrow.below hb).more hb.size) hfit;have HO:Hid (∀ W,Below w.heap.size w W→Calls Tryz.prog 33 #[v] W fun e w'=>(∃ r,e=.returned (.tuple #[r,.int .i64 (ZbE (l.map PV.plc)).2])∧Zal 1 Zbn w'.heap.size w' r (ZbE (l.map PV.plc)).1∧CapOk r)∧Below W.heap.size W w'):=fun W hb=>order_any l v W ((hrow.below hb).more hb.size) hfit;have key:=chkLink_cases K (l.map PV.plc);have hoe:Zas (l.map PV.plc)=0→_:=fun h=>lnOrd_err h;generalize ZaA K (l.map PV.plc)=cl at *;obtain ⟨vke,rfl,hE⟩:=hK;obtain ⟨qe,je,rfl,_,_⟩:=hE;obtain ⟨⟨a,cap,rfl,_,_⟩,_⟩:=hrow;generalize ZaS K=ck at *;generalize l.map PV.plc=L at *;generalize Zas L=cr at *;generalize ZbJ L=fr at *;generalize ZbE L=od at *;generalize Zav L=cg at *;generalize twiceFrom [] L=tw at *;obtain ⟨oa,oe⟩:=od;obtain ⟨ma,mi,ks⟩:=K;dsimp only at *;clear hf hfit;generalize ks.length=lk at *;generalize l.length=ll at *;have B1:Below w.heap.size w (w.alloc (.cells #[.int .i64 ma,.int .i64 mi,.slice qe lk je] 24)):=(Below.refl _ _).alloc (Nat.le_refl _) _
 go_enter Tryz.func164,Tryz.ntmps164
 go_wp2_with fail;refine (HC.out _ B1).mono ?_;rintro e w2 ⟨rfl,b2⟩;have B2:=B1.trans (b2.mono B1.size);clear b2 HC B1
 rcases key with ⟨h1,rfl⟩ | ⟨rfl,h2,rfl⟩ | ⟨rfl,rfl,rfl,rfl⟩ | ⟨rfl,rfl,rfl,rfl⟩
 ·have h1':(cl != 0)=true:=by simpa using h1
  clear h1;go_wp2;go_ret;exact ⟨rfl,B2⟩
 all_goals
  go_wp2_with fail;refine (HF.out _ B2).mono ?_;rintro e w3 ⟨⟨r,rfl,ra,rc,rfl,_,_⟩,b3⟩;have B3:=B2.trans (b3.mono B2.size);clear b3 HF B2
 ·have h2':(cl != 0)=true:=by simpa using h2
  clear h2;go_wp2;go_ret;exact ⟨rfl,B3⟩
 ·obtain rfl:oe=6:=by
   rcases hoe trivial with ⟨_,h⟩ | ⟨h,_⟩
   ·exact h
   ·exact absurd h (by decide)
  clear hoe;go_wp2_with fail;refine (HO.out _ B3).mono ?_;rintro e w4 ⟨⟨s,rfl,⟨sa,sc,rfl,_,_⟩,_⟩,b4⟩;have B4:=B3.trans (b4.mono B3.size);go_wp2;go_ret;exact ⟨rfl,B4⟩
 ·have h6:(oe == 6)=false:=by
   rcases hoe trivial with ⟨h,_⟩ | ⟨_,_,h | h⟩
   ·exact absurd h (by decide)
   ·rw [h];rfl
   ·rw [h];rfl
  clear hoe;go_wp2_with fail;refine (HO.out _ B3).mono ?_;rintro e w4 ⟨⟨s,rfl,⟨sa,sc,rfl,_,_⟩,_⟩,b4⟩;have B4:=B3.trans (b4.mono B3.size);go_wp2;go_ret;exact ⟨rfl,B4⟩
theorem find_plc (name:ByteArray) (l:List PV):(l.map PV.plc).find? (fun p=>p.mod.name == name)=(l.find? fun x:PV=>x.mod.name == name).map PV.plc:=by
 rw [List.find?_map];rfl
theorem link_at {K:Ker} {l:List PV} (h:ZaA K (l.map PV.plc)=0) {x:PV} (hx:x∈l):Zac x.mod=0∧0≤x.first∧x.first+szM x.mod≤16∧1≤szM x.mod:=by
 obtain ⟨_,h2,h3⟩:=ZaO.1 (Zbe h).2.1;have h4:=okPl_first h3 x.plc (List.mem_map.2 ⟨x,hx,rfl⟩);exact ⟨h2 x.plc (List.mem_map.2 ⟨x,hx,rfl⟩),h4.1,h4.2.2,h4.2.1⟩
theorem linkArea_any (K:Ker) (vk:Value) (l:List PV) (v:Value) (w:World) (hK:Zcd w.heap.size w vk K) (hf:K.fits) (hrow:Zax w.heap.size w v l) (hfit:∀ x∈l,x.mod.fits) :
  Calls Tryz.prog 123 #[vk,v] w fun e w'=>e=.returned (.tuple #[.string (ZbY K (l.map PV.plc)).1,.int .i64 (ZbY K (l.map PV.plc)).2])∧Below w.heap.size w w':=by
 have HW:Hid (∀ W,Below w.heap.size w W→Calls Tryz.prog 164 #[vk,v] W fun e w'=>e=.returned (.int .i64 (ZaA K (l.map PV.plc)))∧Below W.heap.size W w'):=fun W hb=>lnWrong_any K vk l v W ((hK.below hb).more hb.size) hf ((hrow.below hb).more hb.size) hfit;have HM:Hid (ZaA K (l.map PV.plc)=0→∀ x∈l,∀ W,Below w.heap.size w W→Calls Tryz.prog 165 #[vk,v,x.val] W fun e w'=>e=.returned (.tuple #[.string (ZaY K (l.map PV.plc) x.plc).1,.int .i64 (ZaY K (l.map PV.plc) x.plc).2])∧Below W.heap.size W w'):=fun h0 x hx W hb=>
  lnOne_any K vk l v x W ((hK.below hb).more hb.size) hf ((hrow.below hb).more hb.size) hfit (((hrow.2 x hx).below hb).more hb.size) (hfit x hx) (link_at h0 hx).1 (link_at h0 hx).2.1 (by have:=link_at h0 hx;omega)
 have HOK:Hid (ZaA K (l.map PV.plc)=0→okPl 0 (l.map PV.plc)∧l.length≤8):=fun h=>by
  have:=ZaO.1 (Zbe h).2.1
  exact ⟨this.2.2,by simpa using this.1⟩
 have HIS:Hid (∀ p,(ZaY K (l.map PV.plc) p).2=0→(ZaY K (l.map PV.plc) p).1.size=64*szM p.mod):=fun p h=>imgRes_size h;have key:(ZaA K (l.map PV.plc)≠0∧ZbY K (l.map PV.plc)=(⟨#[]⟩,ZaA K (l.map PV.plc)))∨(ZaA K (l.map PV.plc)=0∧ZbY K (l.map PV.plc)=ZaM K (l.map PV.plc) ⟨#[]⟩ (l.map PV.plc)):=by
  unfold ZbY
  by_cases h:ZaA K (l.map PV.plc)=0
  ·exact .inr ⟨h,by rw [if_neg (by omega)]⟩
  ·exact .inl ⟨h,by rw [if_pos h]⟩
 have hat:=hrow.2;obtain ⟨vke,rfl,hE⟩:=hK;obtain ⟨qe,je,rfl,_,_⟩:=hE;obtain ⟨⟨a,cap,rfl,hmax,hrow⟩,_⟩:=hrow;generalize ZbY K (l.map PV.plc)=R at *;generalize ZaA K (l.map PV.plc)=cl at *;have HAC:Hid (∀ s p r,ZaM K (l.map PV.plc) s (p::r)=if (ZaY K (l.map PV.plc) p).2≠0 then (⟨#[]⟩,(ZaY K (l.map PV.plc) p).2) else ZaM K (l.map PV.plc) (Zaz s (64*p.first.toNat)++(ZaY K (l.map PV.plc) p).1) r):=fun _ _ _=>rfl;have HAN:Hid (∀ s,ZaM K (l.map PV.plc) s []=(Zaz s 1024,0)):=fun _=>rfl;generalize ZaM K (l.map PV.plc)=AF at *;generalize hLL:l.map PV.plc=L at *;generalize ZaY K L=IR at *;obtain ⟨ma,mi,ks⟩:=K;dsimp only at *;clear hf hfit;generalize ks.length=lk at *;have B1:Below w.heap.size w (w.alloc (.cells #[.int .i64 ma,.int .i64 mi,.slice qe lk je] 24)):=(Below.refl _ _).alloc (Nat.le_refl _) _;have K1:Za (w.alloc (.cells #[.int .i64 ma,.int .i64 mi,.slice qe lk je] 24)) w.heap.size 24 #[.int .i64 ma,.int .i64 mi,.slice qe lk je]:=Za.new w 24 #[.int .i64 ma,.int .i64 mi,.slice qe lk je]
 go_enter Tryz.func123,Tryz.ntmps123
 go_wp2_with fail;refine (HW.out _ B1).mono ?_;rintro e w2 ⟨rfl,b2⟩;have B2:=B1.trans (b2.mono B1.size);have K2:=K1.below b2 K1.lt;clear b2 K1 B1 HW
 rcases key with ⟨h0,rfl⟩ | ⟨rfl,rfl⟩
 ·have h0':(cl != 0)=true:=by simpa using h0
  clear h0 HM;go_wp2;go_ret2;exact ⟨rfl,B2⟩
 ·have HMM:Hid (∀ x∈l,∀ W,Below w.heap.size w W→Calls Tryz.prog 165 #[.agg #[.int .i64 ma,.int .i64 mi,.slice qe lk je],.slice a l.length cap,x.val] W fun e w'=>e=.returned (.tuple #[.string (IR x.plc).1,.int .i64 (IR x.plc).2])∧Below W.heap.size W w'):=HM.out (by first | rfl | trivial)
  obtain ⟨hok,h8⟩:=HOK.out (by first | rfl | trivial);have HO2:Hid (okPl 0 L):=hok;clear HM HOK hok;go_wp2_with fail
  go_loopw [7,20] (fun f i wr=>∃ (k:Nat) (S:ByteArray),k≤l.length∧i=.int .i64 k∧f=.string S∧Hid (∃ e:Nat,S.size≤64*e∧okPl e (L.drop k))∧Hid (AF ⟨#[]⟩ L=AF S (L.drop k))∧Below w2.heap.size w2 wr) (fun _ i _=>l.length-(intOf i).toNat)
  case atStart=>exact ⟨0,⟨#[]⟩,Nat.zero_le _,rfl,rfl,(⟨0,Nat.le_refl _,HO2.out⟩:∃ e:Nat,(⟨#[]⟩:ByteArray).size≤64*e∧okPl e (L.drop 0)),(by show AF ⟨#[]⟩ L=AF ⟨#[]⟩ (L.drop 0);rfl),Below.refl _ _⟩
  case round=>
   obtain ⟨k,S,hk,rfl,rfl,HSZ,HCC,B⟩:=hrel;have B':Below w.heap.size w wr:=B2.trans (B.mono B2.size)
   by_cases hlt:k<l.length
   ·obtain ⟨x,hx⟩:∃ x,l[k]?=some x:=⟨_,List.getElem?_eq_getElem hlt⟩
    have hLx:L[k]?=some x.plc:=by rw [← hLL,List.getElem?_map,hx];rfl
    rcases hrow with h | ⟨b,off,rfl,hbn,hcells⟩
    ·subst h;simp at hlt
    have HR:Hid (AF ⟨#[]⟩ L=if (IR x.plc).2≠0 then (⟨#[]⟩,(IR x.plc).2) else AF (Zaz S (64*x.first.toNat)++(IR x.plc).1) (L.drop (k+1))):=by
     show AF ⟨#[]⟩ L=_
     rw [HCC.out,drop_at hLx,HAC.out]
     rfl
    obtain ⟨e,he,hpl⟩:=HSZ.out;rw [drop_at hLx] at hpl;obtain ⟨p1,p2,p3,p4⟩:=hpl
    change (e:Int)≤x.first at p1
    change 1≤szM x.mod at p2
    change x.first+(szM x.mod:Int)≤16 at p3
    change okPl (x.first+(szM x.mod:Int)) (L.drop (k+1)) at p4
    have HIX:Hid ((IR x.plc).2=0→(IR x.plc).1.size=64*szM x.mod):=HIS.out x.plc;obtain ⟨n,hn⟩:∃ n:Nat,x.first=n:=⟨x.first.toNat,by omega⟩
    have HX:=HMM.out x (List.mem_of_getElem? hx);obtain ⟨R,HRR⟩:∃ R,Hid (IR x.plc=R):=⟨IR x.plc,(rfl:IR x.plc=IR x.plc)⟩;rw [HRR.out] at HX HR HIX;have c0:=(B'.cell (p:=⟨b,off+k*8+0,none⟩) hbn).trans (hcells k _ hx 0 (by omega));have c1:=(B'.cell (p:=⟨b,off+k*8+1,none⟩) hbn).trans (hcells k _ hx 1 (by omega));have c2:=(B'.cell (p:=⟨b,off+k*8+2,none⟩) hbn).trans (hcells k _ hx 2 (by omega));have c3:=(B'.cell (p:=⟨b,off+k*8+3,none⟩) hbn).trans (hcells k _ hx 3 (by omega));have c4:=(B'.cell (p:=⟨b,off+k*8+4,none⟩) hbn).trans (hcells k _ hx 4 (by omega));have c5:=(B'.cell (p:=⟨b,off+k*8+5,none⟩) hbn).trans (hcells k _ hx 5 (by omega));have c6:=(B'.cell (p:=⟨b,off+k*8+6,none⟩) hbn).trans (hcells k _ hx 6 (by omega));have c7:=(B'.cell (p:=⟨b,off+k*8+7,none⟩) hbn).trans (hcells k _ hx 7 (by omega));obtain ⟨⟨pe,ke,e4,_⟩,⟨pi,ki,e5,_⟩,⟨pp,kp,e6,_⟩⟩:=hat x (List.mem_of_getElem? hx);generalize szM x.mod=zz at *;obtain ⟨⟨N,xa,xi,T,es,is,ps⟩,ve,vi,vp,fi⟩:=x;dsimp only [PV.val] at *;subst e4 e5 e6 hn;dsimp only [PV.cell] at c0 c1 c2 c3 c4 c5 c6 c7;rw [Nat.add_zero] at c0;rw [Int.toNat_natCast] at HR;have HF:Hid (∀ W,Calls Tryz.prog 166 #[.string S,.int .i64 n] W fun e w'=>e=.returned (.string (Zaz S (64*n)))∧Below W.heap.size W w'):=fun W=>filled_any S n W (by omega) (by omega);have hfs:Hid ((Zaz S (64*n)).size=64*n):=show (Zaz S (64*n)).size=64*n from fillTo_size (by omega);generalize Zaz S (64*n)=F at *;generalize es.length=le at *;generalize is.length=li at *;generalize ps.length=lp at *;have K3:=K2.below B K2.lt;have d0:=K3.cell 0;have d1:=K3.cell 1;have d2:=K3.cell 2;have hk3:=K3.lt;simp at d0 d1 d2;have HXX:Hid (∀ W,Below w.heap.size w W→Calls Tryz.prog 165 #[.agg #[.int .i64 ma,.int .i64 mi,.slice qe lk je],.slice (some ⟨b,off,none⟩) l.length cap,.agg #[.string N,.int .i64 xa,.int .i64 xi,.string T,.slice pe le ke,.slice pi li ki,.slice pp lp kp,.int .i64 n]] W fun e w'=>e=.returned (.tuple #[.string R.1,.int .i64 R.2])∧Below W.heap.size W w'):=HX;have HB6:Hid (Below w2.heap.size w2 (wr.alloc (.cells #[.string N,.int .i64 xa,.int .i64 xi,.string T,.slice pe le ke,.slice pi li ki,.slice pp lp kp,.int .i64 n] 57))):=B.alloc B.size _;have HC6:Hid (Za (wr.alloc (.cells #[.string N,.int .i64 xa,.int .i64 xi,.string T,.slice pe le ke,.slice pi li ki,.slice pp lp kp,.int .i64 n] 57)) wr.heap.size 57 #[.string N,.int .i64 xa,.int .i64 xi,.string T,.slice pe le ke,.slice pi li ki,.slice pp lp kp,.int .i64 n]):=Za.new wr 57 #[.string N,.int .i64 xa,.int .i64 xi,.string T,.slice pe le ke,.slice pi li ki,.slice pp lp kp,.int .i64 n];have HP4:Hid (okPl ((n+zz:Nat):Int) (L.drop (k+1))):=by
     show okPl ((n+zz:Nat):Int) (L.drop (k+1))
     rw [show ((n+zz:Nat):Int)=(n:Int)+(zz:Int) by omega];exact p4
    obtain ⟨R1,R2⟩:=R;dsimp only at HXX HR HIX;clear hcells hx hLx HX HMM HAC HAN HIS HSZ HCC HRR p4 hat HO2 K3;go_wp2_with fail;refine (HXX.out _ (B2.trans (HB6.out.mono B2.size))).mono ?_;rintro e w7 ⟨rfl,b7⟩;have E7:=HB6.out.trans (b7.mono HB6.out.size);have F7:=B2.trans (E7.mono B2.size);have C7:=HC6.out.below b7 HC6.out.lt;have g7:=C7.cell 7;have hg7:=C7.lt;simp at g7;clear HB6 HC6 HXX c0 c1 c2 c3 c4 c5 c6 c7 d0 d1 d2 b7
    by_cases hq:R2=0
    ·subst hq
     have HR2:Hid (AF ⟨#[]⟩ L=AF (F++R1) (L.drop (k+1))):=by
      show AF ⟨#[]⟩ L=_
      rw [HR.out];rfl
     have HS2:Hid (∃ e:Nat,(F++R1).size≤64*e∧okPl e (L.drop (k+1))):=by
      refine ⟨n+zz,?_,HP4.out⟩;rw [ByteArray.size_append,hfs.out,HIX.out rfl]
      omega
     have hbig:¬ (9223372036854775807<F.size+R1.size):=by
      rw [hfs.out,HIX.out rfl]
      omega
     clear HR HIX HP4 hfs;go_wp2_with fail;refine (HF.out _).mono ?_;rintro e w8 ⟨rfl,b8⟩;have E8:=E7.trans (b8.mono E7.size);clear HF;go_wp2;exact ⟨⟨k+1,F++R1,by omega,by go_num,rfl,HS2,HR2,E8⟩,by simp [intOf];omega⟩
    ·have hq':(R2 != 0)=true:=by simpa using hq
     have HR2:Hid (AF ⟨#[]⟩ L=(⟨#[]⟩,R2)):=by
      show AF ⟨#[]⟩ L=_
      rw [HR.out,if_pos hq]
     clear HR hq HIX HF;go_wp2;go_ret2;exact ⟨by rw [HR2.out];rfl,F7⟩
   ·obtain rfl:k=l.length:=by omega
    have HZ:Hid (AF ⟨#[]⟩ L=(Zaz S 1024,0)):=by
     show AF ⟨#[]⟩ L=(Zaz S 1024,0)
     rw [HCC.out,show L.drop l.length=[] from by rw [← hLL,← List.length_map (f:=PV.plc)];exact List.drop_length,HAN.out]
    have HF:Hid (∀ W,Calls Tryz.prog 166 #[.string S,.int .i64 16] W fun e w'=>e=.returned (.string (Zaz S 1024))∧Below W.heap.size W w'):=fun W=>by
     obtain ⟨e,he,hpl⟩:=HSZ.out
     have:=okPl_end hpl
     exact filled_any S 16 W (by omega) (by omega)
    generalize Zaz S 1024=F at *;clear HSZ HCC HMM;go_wp2_with fail;refine (HF.out _).mono ?_;rintro e w8 ⟨rfl,b8⟩;have E8:=B'.trans (b8.mono B'.size);go_wp2;go_ret2;exact ⟨by rw [HZ.out];rfl,E8⟩
def Zaq (K:Ker) (L:List Plc):Int:=if ZaA K L≠0 then ZaA K L else if (ZbE L).2≠0 then (ZbE L).2 else (ZbY K L).2
theorem chkRg_cases (K:Ker) (L:List Plc):(ZaS K≠0∧Zaq K L=ZaS K)∨(ZaS K=0∧Zas L≠0∧Zaq K L=Zas L)∨(ZaS K=0∧Zas L=0∧(ZbE L).2≠0∧Zaq K L=(ZbE L).2)∨(ZaS K=0∧Zas L=0∧(ZbE L).2=0∧Zaq K L=(ZbY K L).2):=by
 unfold Zaq
 rcases chkLink_cases K L with ⟨h,e⟩ | ⟨h1,h2,e⟩ | ⟨h1,h2,h3,e⟩ | ⟨h1,h2,h3,e⟩
 ·exact .inl ⟨h,by rw [e,if_pos h]⟩
 ·exact .inr (.inl ⟨h1,h2,by rw [e,if_pos h2]⟩)
 ·rcases lnOrd_err h2 with ⟨_,h4⟩ | ⟨h4,_⟩
  ·exact .inr (.inr (.inl ⟨h1,h2,by omega,by rw [e,if_pos (by decide),h4]⟩))
  ·rw [h3] at h4;cases h4
 ·rw [e,if_neg (by decide)]
  by_cases h4:(ZbE L).2=0
  ·exact .inr (.inr (.inr ⟨h1,h2,h4,by rw [if_neg (by omega)]⟩))
  ·exact .inr (.inr (.inl ⟨h1,h2,h4,by rw [if_pos h4]⟩))
theorem chkRg_zero {K:Ker} {L:List Plc} (h:Zaq K L=0):ZaA K L=0∧(ZbE L).2=0∧(ZbY K L).2=0:=by
 unfold Zaq at h
 by_cases h1:ZaA K L=0
 ·rw [if_neg (by omega)] at h
  by_cases h2:(ZbE L).2=0
  ·rw [if_neg (by omega)] at h
   exact ⟨h1,h2,h⟩
  ·rw [if_pos h2] at h
   exact absurd h h2
 ·rw [if_pos h1] at h
  exact absurd h h1
def Zaw (n₀:Nat) (W:World) (v:Value) (K:Ker) (l:List PV):Prop:=∃ ve vl,v=.agg #[.int .i64 K.major,.int .i64 K.minor,ve,vl]∧Zal 2 Exp.cell n₀ W ve K.exps∧Zax n₀ W vl l
theorem Zaw.below {n₀:Nat} {W W':World} {v:Value} {K:Ker} {l:List PV} (h:Zaw n₀ W v K l) (hb:Below n₀ W W'):Zaw n₀ W' v K l:=by
 obtain ⟨ve,vl,e,h1,h2⟩:=h;exact ⟨ve,vl,e,h1.below hb,h2.below hb⟩
theorem Zaw.more {n₀ n₁:Nat} {W:World} {v:Value} {K:Ker} {l:List PV} (h:Zaw n₀ W v K l) (hn:n₀≤n₁):Zaw n₁ W v K l:=by
 obtain ⟨ve,vl,e,h1,h2⟩:=h;exact ⟨ve,vl,e,h1.more hn,h2.more hn⟩
theorem Zcj (K:Ker) (l:List PV) (v:Value) (w:World) (h:Zaw w.heap.size w v K l) (hf:K.fits) (hfit:∀ x∈l,x.mod.fits) :
  Calls Tryz.prog 68 #[v] w fun e w'=>e=.returned (.int .i64 (Zaq K (l.map PV.plc)))∧Below w.heap.size w w':=by
 obtain ⟨ve,vl,rfl,hE,hL⟩:=h;have hK:Zcd w.heap.size w (.agg #[.int .i64 K.major,.int .i64 K.minor,ve]) K:=⟨ve,rfl,hE⟩;have HC:Hid (∀ W,Below w.heap.size w W→Calls Tryz.prog 72 #[.agg #[.int .i64 K.major,.int .i64 K.minor,ve]] W fun e w'=>e=.returned (.int .i64 (ZaS K))∧Below W.heap.size W w'):=fun W hb=>kernel_any K _ W ((hK.below hb).more hb.size) hf;have HF:Hid (∀ W,Below w.heap.size w W→Calls Tryz.prog 19 #[vl] W fun e w'=>(∃ r,e=.returned (.tuple #[r,.int .i64 (Zas (l.map PV.plc))])∧Zal 2 Zbu w'.heap.size w' r (ZbJ (l.map PV.plc)))∧Below W.heap.size W w'):=fun W hb=>free_any l vl W ((hL.below hb).more hb.size) hfit;have HO:Hid (∀ W,Below w.heap.size w W→Calls Tryz.prog 33 #[vl] W fun e w'=>(∃ r,e=.returned (.tuple #[r,.int .i64 (ZbE (l.map PV.plc)).2])∧Zal 1 Zbn w'.heap.size w' r (ZbE (l.map PV.plc)).1∧CapOk r)∧Below W.heap.size W w'):=fun W hb=>order_any l vl W ((hL.below hb).more hb.size) hfit;have HA:Hid (∀ W,Below w.heap.size w W→Calls Tryz.prog 123 #[.agg #[.int .i64 K.major,.int .i64 K.minor,ve],vl] W fun e w'=>e=.returned (.tuple #[.string (ZbY K (l.map PV.plc)).1,.int .i64 (ZbY K (l.map PV.plc)).2])∧Below W.heap.size W w'):=fun W hb=>linkArea_any K _ l vl W ((hK.below hb).more hb.size) hf ((hL.below hb).more hb.size) hfit;have key:=chkRg_cases K (l.map PV.plc);generalize Zaq K (l.map PV.plc)=cr at *;clear hK hf hfit;obtain ⟨qe,je,rfl,_,_⟩:=hE;obtain ⟨⟨a,cap,rfl,_,_⟩,_⟩:=hL;generalize ZbY K (l.map PV.plc)=ar at *;generalize ZaS K=ck at *;generalize l.map PV.plc=L at *;generalize Zas L=cg at *;generalize ZbJ L=fr at *;generalize ZbE L=od at *;obtain ⟨oa,oe⟩:=od;obtain ⟨az,ae⟩:=ar;obtain ⟨ma,mi,ks⟩:=K;dsimp only at *;generalize ks.length=lk at *;generalize l.length=ll at *;have BB:Below w.heap.size w (w.alloc (.cells #[.int .i64 ma,.int .i64 mi,.slice qe lk je,.slice a ll cap] 27)):=(Below.refl _ _).alloc (Nat.le_refl _) _;have KB:Za (w.alloc (.cells #[.int .i64 ma,.int .i64 mi,.slice qe lk je,.slice a ll cap] 27)) w.heap.size 27 #[.int .i64 ma,.int .i64 mi,.slice qe lk je,.slice a ll cap]:=Za.new w 27 #[.int .i64 ma,.int .i64 mi,.slice qe lk je,.slice a ll cap]
 go_enter Tryz.func68,Tryz.ntmps68
 go_wp2_with fail;refine (HC.out _ BB).mono ?_;rintro e w2 ⟨rfl,b1⟩;replace KB:=KB.below b1 KB.lt;replace BB:=BB.trans (b1.mono BB.size);clear b1 HC;have k0:=KB.cell 0;have k1:=KB.cell 1;have k2:=KB.cell 2;have k3:=KB.cell 3;have hk:=KB.lt;simp at k0 k1 k2 k3
 rcases key with ⟨h1,rfl⟩ | ⟨rfl,h2,rfl⟩ | ⟨rfl,rfl,h3,rfl⟩ | ⟨rfl,rfl,rfl,rfl⟩
 ·have h1':(cr != 0)=true:=by simpa using h1
  clear h1;go_wp2;go_ret;exact ⟨rfl,BB⟩
 all_goals
  go_wp2_with fail;refine (HF.out _ BB).mono ?_;rintro e w3 ⟨⟨r,rfl,ra,rc,rfl,_,_⟩,b1⟩;replace KB:=KB.below b1 KB.lt;replace BB:=BB.trans (b1.mono BB.size);clear b1 HF k0 k1 k2 k3 hk;have k0:=KB.cell 0;have k1:=KB.cell 1;have k2:=KB.cell 2;have k3:=KB.cell 3;have hk:=KB.lt;simp at k0 k1 k2 k3
 ·have h2':(cr != 0)=true:=by simpa using h2
  clear h2;go_wp2;go_ret;exact ⟨rfl,BB⟩
 all_goals
  go_wp2_with fail;refine (HO.out _ BB).mono ?_;rintro e w4 ⟨⟨s,rfl,⟨sa,sc,rfl,_,_⟩,_⟩,b1⟩;replace KB:=KB.below b1 KB.lt;replace BB:=BB.trans (b1.mono BB.size);clear b1 HO k0 k1 k2 k3 hk;have k0:=KB.cell 0;have k1:=KB.cell 1;have k2:=KB.cell 2;have k3:=KB.cell 3;have hk:=KB.lt;simp at k0 k1 k2 k3
 ·have h3':(cr != 0)=true:=by simpa using h3
  clear h3;go_wp2;go_ret;exact ⟨rfl,BB⟩
 ·go_wp2_with fail
  refine (HA.out _ BB).mono ?_;rintro e w5 ⟨rfl,b1⟩;replace BB:=BB.trans (b1.mono BB.size);go_wp2;go_ret;exact ⟨rfl,BB⟩
end Go.Proofs.YtlpnfbpgnfappaaGreat
namespace Go.Proofs.YtlpnfbpgnfappaaGreat
open Go.RowKit Go.PlainAid Go.Lib
def libM:Mod:=⟨⟨#[108,105,98]⟩,1,2,⟨#[97,98,99,100,101,102,103,104]⟩,[⟨⟨#[102]⟩,4⟩],[],[]⟩
def appM:Mod:=⟨⟨#[97,112,112]⟩,0,0,⟨#[46,46,46,46,46,46,46,46]⟩,[],[⟨⟨#[108,105,98]⟩,⟨#[102]⟩,1,1⟩,⟨⟨#[107,101,114,110,101,108]⟩,⟨#[107]⟩,0,0⟩],[⟨1,0,0,1⟩,⟨5,4,1,0⟩]⟩
theorem chk_lib:Zac libM=0:=by kernel_rfl
theorem chk_app:Zac appM=0:=by kernel_rfl
theorem lib_any (w:World):Calls Tryz.prog 58 #[] w fun e w'=>∃ pe ke,e=.returned (.agg #[.string ⟨#[108,105,98]⟩,.int .i64 1,.int .i64 2,.string ⟨#[97,98,99,100,101,102,103,104]⟩,.slice pe 1 ke,.slice none 0 0,.slice none 0 0])∧Zbf w'.heap.size w' (.agg #[.string ⟨#[108,105,98]⟩,.int .i64 1,.int .i64 2,.string ⟨#[97,98,99,100,101,102,103,104]⟩,.slice pe 1 ke,.slice none 0 0,.slice none 0 0]) libM∧Below w.heap.size w w':=by
 go_enter Tryz.func58,Tryz.ntmps58
 go_wp2
 (try simp only [Exit.inBlock,Exit.then])
 refine bodyPost_ret (results_cell_row rfl _ _ _ _ _ _ _ rfl (Za.kept (Za.new w _ _) (World.grownBy_alloc _ _ none) (by simp)) Tryz.underlying31 rfl (by kernel_rfl)) rfl ?_;refine ⟨_,_,rfl,⟨_,_,_,rfl,?_,⟨_,_,rfl,by decide,.inl rfl⟩,⟨_,_,rfl,by decide,.inl rfl⟩⟩,((Below.refl _ _).alloc (Nat.le_refl _) _).alloc (by simp) _⟩;have c:=Za.new (w.alloc (.cells #[.string ⟨#[108,105,98]⟩,.int .i64 1,.int .i64 2,.string ⟨#[97,98,99,100,101,102,103,104]⟩,.slice (some ⟨w.heap.size+1,0,none⟩) 1 1,.slice none 0 0,.slice none 0 0] 31)) 129 #[.string ⟨#[102]⟩,.int .i64 4];rw [World.size_alloc] at c;exact ZbQ (C:=expC) (cells:=Exp.cell) (sz:=2) (fun _=>rfl) expC_at c libM.exps (by decide) 1 rfl
theorem app_any (w:World):Calls Tryz.prog 69 #[] w fun e w'=>∃ v,e=.returned v∧Zbf w'.heap.size w' v appM∧Below w.heap.size w w':=by
 go_enter Tryz.func69,Tryz.ntmps69
 go_wp2
 (try simp only [Exit.inBlock,Exit.then])
 refine bodyPost_ret (results_cell_row rfl _ _ _ _ _ _ _ rfl (Za.kept (Za.kept (Za.new w _ _) (World.grownBy_alloc _ _ none) (by simp)) (World.grownBy_alloc _ _ none) (by simp)) Tryz.underlying31 rfl (by kernel_rfl)) rfl ?_;generalize hA:w.alloc (.cells #[.string ⟨#[97,112,112]⟩,.int .i64 0,.int .i64 0,.string ⟨#[46,46,46,46,46,46,46,46]⟩,.slice none 0 0,.slice (some ⟨w.heap.size+1,0,none⟩) 2 2,.slice (some ⟨w.heap.size+1+1,0,none⟩) 2 2] 31)=wa;have hz:wa.heap.size=w.heap.size+1:=by rw [← hA];simp
 have B1:Below w.heap.size w wa:=by rw [← hA];exact (Below.refl _ _).alloc (Nat.le_refl _) _
 clear hA;have c1:=Za.new wa 106 #[.string ⟨#[108,105,98]⟩,.string ⟨#[102]⟩,.int .i64 1,.int .i64 1,.string ⟨#[107,101,114,110,101,108]⟩,.string ⟨#[107]⟩,.int .i64 0,.int .i64 0];have c2:=Za.new (wa.alloc (.cells #[.string ⟨#[108,105,98]⟩,.string ⟨#[102]⟩,.int .i64 1,.int .i64 1,.string ⟨#[107,101,114,110,101,108]⟩,.string ⟨#[107]⟩,.int .i64 0,.int .i64 0] 106)) 113 #[.int .i64 1,.int .i64 0,.int .i64 0,.int .i64 1,.int .i64 5,.int .i64 4,.int .i64 1,.int .i64 0];have c1':=c1.kept (World.grownBy_alloc _ (.cells #[.int .i64 1,.int .i64 0,.int .i64 0,.int .i64 1,.int .i64 5,.int .i64 4,.int .i64 1,.int .i64 0] 113) none) (by simp);rw [hz] at c1';rw [World.size_alloc,hz] at c2;refine ⟨_,rfl,⟨_,_,_,rfl,⟨_,_,rfl,by decide,.inl rfl⟩,?_,?_⟩,(B1.alloc (by omega) _).alloc (by simp;omega) _⟩
 ·exact ZbQ (C:=impC) (cells:=Imp.cell) (sz:=4) (fun _=>rfl) impC_at c1' appM.imps (by decide) 2 rfl
 ·exact ZbQ (C:=patC) (cells:=Pat.cell) (sz:=4) (fun _=>rfl) patC_at c2 appM.pats (by decide) 2 rfl
end Go.Proofs.YtlpnfbpgnfappaaGreat
