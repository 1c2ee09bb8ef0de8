/- Texts that are laid together. -/
import Derived.Test.YtlpnfbpgnfappaaGreatMrgS
import Derived.Test.YtlpnfbpgnfappaaGreatMrgI
import Derived.Test.YtlpnfbpgnfappaaGreatMrgQ
import Derived.Test.YtlpnfbpgnfappaaGreatMrgR
import Derived.Test.YtlpnfbpgnfappaaGreatMrgE
import Derived.BigQuiet
import Derived.Test.YtlpnfbpgnfappaaGreatMrgC
set_option maxHeartbeats 256000000
set_option maxRecDepth 100000

namespace Go.Proofs.YtlpnfbpgnfappaaGreat
open Go.RowKit Go.PlainAid
theorem checkRegions_any (l:List PV) (v:Value) (w:World) (hrow:Zax w.heap.size w v l) (hfit:∀ x∈l,x.mod.fits) :
  Calls Tryz.prog 104 #[v] w fun e w'=>e=.returned (.int .i64 (Zas (l.map PV.plc)))∧Below w.heap.size w w':=by
 have HC:Hid (∀ W,Below w.heap.size w W→Calls Tryz.prog 158 #[v,.bool true,.bool true] W fun e w'=>e=.returned (.int .i64 (if 8<l.length then 2 else ZaW Zbi (l.map PV.plc)))∧Below W.heap.size W w'):=fun W hb=>checkModules_whole l v W ((hrow.below hb).more hb.size) hfit;have hat:=hrow.2;obtain ⟨⟨a,cap,rfl,hmax,hrow⟩,_⟩:=hrow;have key:=chkReg_cases (l.map PV.plc);rw [List.length_map] at key;have hall:(∀ p∈l.map PV.plc,Zac p.mod=0∧0≤p.first∧p.first+szM p.mod≤16)→∀ x∈l,x.mod.text.size≤256∧0≤x.first∧x.first+szM x.mod≤16:=by
  intro h x hx;obtain ⟨h1,h2,h3⟩:=h x.plc (List.mem_map_of_mem hx);exact ⟨(Zco h1).2.2.1,h2,h3⟩
 generalize Zas (l.map PV.plc)=R at *;generalize (if 8<l.length then (2:Int) else ZaW Zbi (l.map PV.plc))=cp at *
 go_enter Tryz.func104,Tryz.ntmps104
 go_wp2_with fail;refine (HC.out w (Below.refl _ _)).mono ?_;rintro e w2 ⟨rfl,B2⟩;clear HC
 rcases key with ⟨h0,rfl⟩ | ⟨rfl,h0,rfl⟩
 ·have h0':(R != 0)=true:=by simpa using h0
  clear hall hrow hat;go_wp2;go_ret;exact ⟨rfl,B2⟩
 ·have hx0:=hall h0
  clear hall h0;go_wp2_with fail
  go_loopw [4] (fun i wr=>∃ (k m:Nat),i=.int .i64 k∧Hid (k=m+1)∧((l=[]∧m=0)∨∃ x,l[m]?=some x∧Hid (behind 0 (l.map PV.plc)=behind (x.first+szM x.mod) ((l.drop (m+1)).map PV.plc)))∧Below w.heap.size w wr) (fun i _=>l.length+1-(intOf i).toNat)
  case atStart=>
   refine ⟨1,0,rfl,(rfl:1=0+1),?_,B2⟩
   cases l with
   | nil=>exact .inl ⟨rfl,rfl⟩
   | cons x l=>
    refine .inr ⟨x,rfl,?_⟩
    show behind 0 ((x::l).map PV.plc)=behind (x.first+szM x.mod) (((x::l).drop (0+1)).map PV.plc)
    have h1:behind 0 ((x::l).map PV.plc)=(!decide (x.first<0) && behind (x.first+szM x.mod) (l.map PV.plc)):=rfl;have h2:=(hx0 x (by simp)).2.1;rw [h1,decide_eq_false (by omega)]
    rfl
  case round=>
   obtain ⟨k,m,rfl,HK,hm,B⟩:=hrel
   rcases hm with ⟨rfl,rfl⟩ | ⟨x,hx,HC⟩
   ·obtain rfl:k=1:=HK.out
    go_wp2;go_ret;exact ⟨rfl,B⟩
   ·have hml:m<l.length:=(List.getElem?_eq_some_iff.1 hx).1
    by_cases hlt:k<l.length
    ·obtain ⟨y,hy⟩:∃ y,l[k]?=some y:=⟨_,List.getElem?_eq_getElem hlt⟩
     rcases hrow with h | ⟨b,off,rfl,hbn,hcells⟩
     ·subst h;simp at hlt
     have HR:Hid (behind 0 (l.map PV.plc)=(!decide (y.first<x.first+szM x.mod) && behind (y.first+szM y.mod) ((l.drop (k+1)).map PV.plc))):=by
      show behind 0 (l.map PV.plc)=_
      rw [HC.out,← HK.out,drop_at hy];rfl
     have hxx:=hx0 x (List.mem_of_getElem? hx);have HS:Hid (∀ W,Calls Tryz.prog 52 #[x.modV] W fun e w'=>e=.returned (.int .i64 (szM x.mod:Int))∧Below W.heap.size W w'):=by
      intro W;obtain ⟨⟨pe,ke,e4,_⟩,⟨pi,ki,e5,_⟩,⟨pp,kp,e6,_⟩⟩:=hat x (List.mem_of_getElem? hx);unfold PV.modV;rw [e4,e5,e6];exact sizeOf_any _ _ _ _ _ _ _ _ _ _ _ _ _ _ hxx.1
     obtain ⟨⟨pe,ke,e4,_⟩,⟨pi,ki,e5,_⟩,⟨pp,kp,e6,_⟩⟩:=hat x (List.mem_of_getElem? hx);have d7:=(B.cell (p:=⟨b,off+k*8+7,none⟩) hbn).trans (hcells k _ hy 7 (by omega));have HY:Hid (l[k]?=some y):=hy;clear hy;generalize hyf:y.first=yf at *
     generalize hsz:szM x.mod=sz at *;obtain ⟨⟨N,ma,mi,T,es,is,ps⟩,ve,vi,vp,fi⟩:=x;dsimp only at e4 e5 e6;subst e4 e5 e6;have c0:=(B.cell (p:=⟨b,off+m*8+0,none⟩) hbn).trans (hcells m _ hx 0 (by omega));have c1:=(B.cell (p:=⟨b,off+m*8+1,none⟩) hbn).trans (hcells m _ hx 1 (by omega));have c2:=(B.cell (p:=⟨b,off+m*8+2,none⟩) hbn).trans (hcells m _ hx 2 (by omega));have c3:=(B.cell (p:=⟨b,off+m*8+3,none⟩) hbn).trans (hcells m _ hx 3 (by omega));have c4:=(B.cell (p:=⟨b,off+m*8+4,none⟩) hbn).trans (hcells m _ hx 4 (by omega));have c5:=(B.cell (p:=⟨b,off+m*8+5,none⟩) hbn).trans (hcells m _ hx 5 (by omega));have c6:=(B.cell (p:=⟨b,off+m*8+6,none⟩) hbn).trans (hcells m _ hx 6 (by omega));have c7:=(B.cell (p:=⟨b,off+m*8+7,none⟩) hbn).trans (hcells m _ hx 7 (by omega));dsimp only [PV.cell] at c0 c1 c2 c3 c4 c5 c6 c7 d7;dsimp only [PV.modV] at HS;dsimp only at hxx HR;rw [Nat.add_zero] at c0;rw [hyf] at d7;clear HC hcells hx hat hsz hx0;obtain ⟨_,hf0,hf1⟩:=hxx;generalize es.length=le at *;generalize is.length=li at *;generalize ps.length=lp at *;have t0:=cell_regrown c0;have t1:=cell_regrown c1;have t2:=cell_regrown c2;have t3:=cell_regrown c3;have t4:=cell_regrown c4;have t5:=cell_regrown c5;have t6:=cell_regrown c6;have t7:=cell_regrown c7;have s7:=cell_regrown d7;clear c0 c1 c2 c3 c4 c5 c6 c7 d7;have hbd:l.length≤9223372036854775807:=hmax;have i0:IntKind.i64.wrap ((k:Int)-1)=(m:Int):=by have:=HK.out;rw [i64_is];unfold wrap64;omega
     have i1:IntKind.i64.wrap (fi+(sz:Int))=fi+(sz:Int):=by rw [i64_is];unfold wrap64;omega
     by_cases hb:yf<fi+sz
     ·have HZ:Hid (behind 0 (l.map PV.plc)=false):=by
       show behind 0 (l.map PV.plc)=false
       rw [HR.out,decide_eq_true hb];rfl
      clear HR;go_wp2_with fail;refine wp_region_quiet_below (by kernel_rfl) (by kernel_rfl) ?_
      repeat (quiet_step ((go_at_call 52;go_must (exact Calls.regrown_of (HS.out _)))))
      refine wpQuiet_nil ?_;intro _ hw';obtain ⟨⟨dq,osq⟩,hw''⟩:=hw';have B5:=B.trans ((below_regrown wr dq osq).mono B.size);rw [← hw''] at B5;clear hw'' t0 t1 t2 t3 t4 t5 t6 t7 s7 HS;go_wp2;go_ret;exact ⟨by rw [HZ.out];rfl,B5⟩
     ·have hb':decide (yf<fi+sz)=false:=decide_eq_false hb
      have HZ:Hid (behind 0 (l.map PV.plc)=behind (y.first+szM y.mod) ((l.drop (k+1)).map PV.plc)):=by
       show behind 0 (l.map PV.plc)=_
       rw [HR.out,hb',hyf];rfl
      clear HR;go_wp2_with fail;refine wp_region_quiet_below (by kernel_rfl) (by kernel_rfl) ?_
      repeat (quiet_step ((go_at_call 52;go_must (exact Calls.regrown_of (HS.out _)))))
      refine wpQuiet_nil ?_;intro _ hw';obtain ⟨⟨dq,osq⟩,hw''⟩:=hw';have B5:=B.trans ((below_regrown wr dq osq).mono B.size);rw [← hw''] at B5;clear hw'' t0 t1 t2 t3 t4 t5 t6 t7 s7 HS;go_wp2;exact ⟨⟨k+1,k,by go_num,(rfl:k+1=k+1),.inr ⟨y,HY.out,HZ.out⟩,B5⟩,by simp [intOf];omega⟩
    ·have hlt':decide ((k:Int)<l.length)=false:=decide_eq_false (by omega)
     have HZ:Hid (behind 0 (l.map PV.plc)=true):=by
      show behind 0 (l.map PV.plc)=true
      rw [HC.out,List.drop_eq_nil_of_le (by have:=HK.out;omega)];rfl
     go_wp2;go_ret;exact ⟨by rw [HZ.out];rfl,B⟩
def usedArr (u:Nat→Bool):Array Value:=((List.range 16).map fun j=>Value.bool (u j)).toArray
theorem usedArr_get (u:Nat→Bool) {i:Nat} (hi:i<16):(usedArr u)[i]?=some (.bool (u i)):=by
 unfold usedArr;simp [hi]
theorem usedArr_size (u:Nat→Bool):(usedArr u).size=16:=by simp [usedArr]
theorem usedArr_set (u:Nat→Bool) (i:Nat):(usedArr u).setIfInBounds i (.bool true)=usedArr (fun j=>decide (j=i) || u j):=by
 apply Array.ext_getElem?
 intro j;rw [Array.getElem?_setIfInBounds,usedArr_size]
 by_cases hj:j<16
 ·rw [usedArr_get _ hj,usedArr_get _ hj]
  by_cases h:i=j
  ·subst h
   rw [if_pos rfl,if_pos hj]
   simp
  ·rw [if_neg h,decide_eq_false (fun h3=>h h3.symm)]
   rfl
 ·have h1:(usedArr fun j=>decide (j=i) || u j)[j]?=none:=by rw [Array.getElem?_eq_none];rw [usedArr_size];omega
  have h2:(usedArr u)[j]?=none:=by rw [Array.getElem?_eq_none];rw [usedArr_size];omega
  rw [h1,h2]
  by_cases h:i=j
  ·subst h
   rw [if_pos rfl,if_neg hj]
  ·rw [if_neg h]
theorem own_set {W:World} {base:Nat} {e:TypeId} {size:Nat} {g n cap:Nat} {xs:List Value} (h:W.ownsRow base e size (.slice (some ⟨g,0,none⟩) n cap) n xs) (i:Nat) (u:Value):(W.setCell ⟨g,i,none⟩ u).ownsRow base e size (.slice (some ⟨g,0,none⟩) n cap) n (xs.set i u):=by
 obtain ⟨h1,⟨h2,_⟩ | ⟨g',cap',cur,h2,hg,hc,hn,hm,hs,ht⟩⟩:=h
 ·cases h2
 ·injection h2 with h3 h4 h5
  injection h3 with h3;injection h3 with h3;subst h3 h5;refine ⟨by rw [List.length_set];exact h1,.inr ⟨g,cap,cur.setIfInBounds i u,rfl,hg,Za.set i u hc,hn,hm,by simpa using hs,?_⟩⟩;rw [← ht,Array.toList_setIfInBounds,List.take_set]
theorem flat_set (pre:List (Int × Int)) (a b c:Int):((pre++[(a,b)]).flatMap runC).set (pre.length*2+1) (.int .i64 c)=(pre++[(a,c)]).flatMap runC:=by
 have hl:(pre.flatMap runC).length=pre.length*2:=Zca (C:=runC) (sz:=2) (fun _=>rfl) pre;rw [List.flatMap_append,List.flatMap_append,List.set_append_right _ _ (by omega),hl]
 have:pre.length*2+1-pre.length*2=1:=by omega
 rw [this]
 rfl
theorem scan_last {u:Nat→Bool}:∀ {i:Nat},u i=false→∃ pre a b,scan u (i+1)=pre++[(a,b)]∧0≤b∧b≤(i:Int)+1
 | 0,h=>by
  refine ⟨[],0,1,?_,by omega,by omega⟩
  show ZbA u 0 []=_
  unfold ZbA;rw [if_neg (by rw [h];decide),if_neg (by omega)]
  rfl
 | i+1,h=>by
  have hs:scan u (i+1+1)=ZbA u (i+1) (scan u (i+1)):=rfl;rw [hs];unfold ZbA;rw [if_neg (by rw [h];decide)]
  cases hu:u i with
  | true=>
   rw [if_neg (by rintro ⟨_,h2⟩;rw [show i+1-1=i by omega,hu] at h2;cases h2)];exact ⟨_,_,_,rfl,by omega,by omega⟩
  | false=>
   rw [if_pos ⟨by omega,by rw [show i+1-1=i by omega];exact hu⟩];obtain ⟨pre,a,b,h1,h2,h3⟩:=scan_last hu;rw [h1,bump_snoc];exact ⟨pre,a,b+1,rfl,by omega,by omega⟩
theorem scan_len (u:Nat→Bool):∀ i,(scan u i).length≤i
 | 0=>Nat.le_refl _
 | i+1=>by
  have:=scan_len u i
  have hs:scan u (i+1)=ZbA u i (scan u i):=rfl;rw [hs];unfold ZbA
  split
  ·omega
  ·split
   ·rcases List.eq_nil_or_concat (scan u i) with h | ⟨pre,⟨a,b⟩,h⟩
    ·rw [h];simp [bump]
    ·rw [h,List.concat_eq_append,bump_snoc]
     rw [h,List.concat_eq_append] at this;simp at this ⊢
     omega
   ·simp
    omega
theorem used_take {l:List PV} {k:Nat} {x:PV} (hx:l[k]?=some x) (n:Nat):usedBy ((l.take (k+1)).map PV.plc) n=(usedBy ((l.take k).map PV.plc) n || (decide (x.first≤(n:Int)) && decide ((n:Int)<x.first+szM x.mod))):=by
 rw [List.take_add_one,hx];unfold usedBy;simp [PV.plc]
theorem freeOf_any (l:List PV) (v:Value) (w:World) (hrow:Zax w.heap.size w v l) (h0:Zas (l.map PV.plc)=0) :
  Calls Tryz.prog 113 #[v] w fun e w'=>(∃ r,e=.returned r∧Zal 2 Zbu w'.heap.size w' r (runsFrom 0 (l.map PV.plc)))∧Below w.heap.size w w':=by
 have hat:=hrow.2;obtain ⟨⟨a,cap,rfl,hmax,hrow⟩,_⟩:=hrow;obtain ⟨h8,hm0,hok⟩:=ZaO.1 h0;have hx0:∀ x∈l,x.mod.text.size≤256∧0≤x.first∧x.first+szM x.mod≤16:=by
  intro x hx;have h1:=okPl_first hok x.plc (List.mem_map_of_mem hx);exact ⟨(Zco (hm0 x.plc (List.mem_map_of_mem hx))).2.2.1,by exact h1.1,by exact h1.2.2⟩
 have HOK:Hid (okPl 0 (l.map PV.plc)):=hok;clear h0 hm0 hok h8;have C1:Za (w.alloc (.cells #[.bool false,.bool false,.bool false,.bool false,.bool false,.bool false,.bool false,.bool false,.bool false,.bool false,.bool false,.bool false,.bool false,.bool false,.bool false,.bool false] 188)) w.heap.size 188 (usedArr (fun _=>false)):=Za.new _ _ _;have B1:Below w.heap.size w (w.alloc (.cells #[.bool false,.bool false,.bool false,.bool false,.bool false,.bool false,.bool false,.bool false,.bool false,.bool false,.bool false,.bool false,.bool false,.bool false,.bool false,.bool false] 188)):=(Below.refl _ _).alloc (Nat.le_refl _) _
 go_enter Tryz.func113,Tryz.ntmps113
 go_wp2_with fail;generalize w.alloc (.cells #[.bool false,.bool false,.bool false,.bool false,.bool false,.bool false,.bool false,.bool false,.bool false,.bool false,.bool false,.bool false,.bool false,.bool false,.bool false,.bool false] 188)=w1 at C1 B1 ⊢
 go_loopw [4] (fun i wr=>∃ (k:Nat) (u:Nat→Bool),k≤l.length∧i=.int .i64 k∧Hid (∀ n,n<16→u n=usedBy ((l.take k).map PV.plc) n)∧Za wr w.heap.size 188 (usedArr u)∧Below w.heap.size w wr) (fun i _=>l.length-(intOf i).toNat)
 case atStart=>exact ⟨0,fun _=>false,Nat.zero_le _,rfl,by show ∀ n,n<16→false=usedBy ((l.take 0).map PV.plc) n;intro n _;rfl,C1,B1⟩
 case round=>
  obtain ⟨k,u,hk,rfl,HU,C,B⟩:=hrel
  by_cases hlt:k<l.length
  ·obtain ⟨x,hx⟩:∃ x,l[k]?=some x:=⟨_,List.getElem?_eq_getElem hlt⟩
   rcases hrow with h | ⟨b,off,rfl,hbn,hcells⟩
   ·subst h;simp at hlt
   have hxx:=hx0 x (List.mem_of_getElem? hx);have HS:Hid (∀ W,Calls Tryz.prog 52 #[x.modV] W fun e w'=>e=.returned (.int .i64 (szM x.mod:Int))∧Below W.heap.size W w'):=by
    intro W;obtain ⟨⟨pe,ke,e4,_⟩,⟨pi,ki,e5,_⟩,⟨pp,kp,e6,_⟩⟩:=hat x (List.mem_of_getElem? hx);unfold PV.modV;rw [e4,e5,e6];exact sizeOf_any _ _ _ _ _ _ _ _ _ _ _ _ _ _ hxx.1
   have HUT:Hid (∀ n,usedBy ((l.take (k+1)).map PV.plc) n=(usedBy ((l.take k).map PV.plc) n || (decide (x.first≤(n:Int)) && decide ((n:Int)<x.first+szM x.mod)))):=used_take hx;obtain ⟨⟨pe,ke,e4,_⟩,⟨pi,ki,e5,_⟩,⟨pp,kp,e6,_⟩⟩:=hat x (List.mem_of_getElem? hx);generalize hsz:szM x.mod=sz at *;obtain ⟨⟨N,ma,mi,T,es,is,ps⟩,ve,vi,vp,fi⟩:=x;dsimp only at e4 e5 e6;subst e4 e5 e6;have q0:=hcells k _ hx 0 (by omega);have q1:=hcells k _ hx 1 (by omega);have q2:=hcells k _ hx 2 (by omega);have q3:=hcells k _ hx 3 (by omega);have q4:=hcells k _ hx 4 (by omega);have q5:=hcells k _ hx 5 (by omega);have q6:=hcells k _ hx 6 (by omega);have q7:=hcells k _ hx 7 (by omega);dsimp only [PV.cell] at q0 q1 q2 q3 q4 q5 q6 q7;dsimp only [PV.modV] at HS;dsimp only at hxx HUT;rw [Nat.add_zero] at q0;clear hcells hx hat hsz hx0;obtain ⟨_,hf0,hf1⟩:=hxx;generalize es.length=le at *;generalize is.length=li at *;generalize ps.length=lp at *;go_wp2_with fail
   go_loopw [5] (fun j wq=>∃ (m:Nat) (u':Nat→Bool),m≤sz∧j=.int .i64 m∧Hid (∀ n,n<16→u' n=(usedBy ((l.take k).map PV.plc) n || (decide (fi≤(n:Int)) && decide ((n:Int)<fi+m))))∧Za wq w.heap.size 188 (usedArr u')∧Below w.heap.size w wq) (fun j _=>sz-(intOf j).toNat)
   case atStart=>
    refine ⟨0,u,Nat.zero_le _,rfl,?_,C,B⟩
    show ∀ n,n<16→u n=(usedBy ((l.take k).map PV.plc) n || (decide (fi≤(n:Int)) && decide ((n:Int)<fi+(0:Nat))))
    intro n hn;rw [HU.out n hn]
    have:(decide (fi≤(n:Int)) && decide ((n:Int)<fi+(0:Nat)))=false:=by simp
    rw [this,Bool.or_false]
   case round=>
    obtain ⟨m,u',hm,rfl,HU',C',B'⟩:=hrel;have c0:=(B'.cell (p:=⟨b,off+k*8,none⟩) hbn).trans q0;have c1:=(B'.cell (p:=⟨b,off+k*8+1,none⟩) hbn).trans q1;have c2:=(B'.cell (p:=⟨b,off+k*8+2,none⟩) hbn).trans q2;have c3:=(B'.cell (p:=⟨b,off+k*8+3,none⟩) hbn).trans q3;have c4:=(B'.cell (p:=⟨b,off+k*8+4,none⟩) hbn).trans q4;have c5:=(B'.cell (p:=⟨b,off+k*8+5,none⟩) hbn).trans q5;have c6:=(B'.cell (p:=⟨b,off+k*8+6,none⟩) hbn).trans q6;go_wp2_with fail;refine (HS.out _).mono ?_;rintro e w3 ⟨rfl,b3⟩;have B3:=B'.trans (b3.mono B'.size);have C3:=C'.below b3 C'.lt;clear c0 c1 c2 c3 c4 c5 c6 C' b3
    by_cases hms:m<sz
    ·obtain ⟨n,hn⟩:∃ n:Nat,fi+(m:Int)=(n:Int):=⟨(fi+m).toNat,by omega⟩
     have hn16:n<16:=by omega
     have d7:=(B3.cell (p:=⟨b,off+k*8+7,none⟩) hbn).trans q7;have t1:=(C3.cell n).trans (usedArr_get u' hn16);have t2:=C3.frozen n;have HU2:Hid (∀ j,j<16→(decide (j=n) || u' j)=(usedBy ((l.take k).map PV.plc) j || (decide (fi≤(j:Int)) && decide ((j:Int)<fi+((m+1:Nat):Int))))):=by
      intro j hj;rw [HU'.out j hj]
      by_cases hjn:j=n
      ·subst hjn
       have:(decide (fi≤(j:Int)) && decide ((j:Int)<fi+((m+1:Nat):Int)))=true:=by simp;omega
       rw [this]
       simp
      ·rw [decide_eq_false hjn,Bool.false_or]
       congr 1
       congr 1
       apply decide_eq_decide.2
       omega
     have HC4:Hid (Za (w3.setCell ⟨w.heap.size,n,none⟩ (.bool true)) w.heap.size 188 (usedArr (fun j=>decide (j=n) || u' j))):=by
      have:=Za.set n (.bool true) C3
      rw [usedArr_set] at this;exact this
     have HB4:Hid (Below w.heap.size w (w3.setCell ⟨w.heap.size,n,none⟩ (.bool true))):=B3.setCell (Nat.le_refl _) _;clear C3;go_wp2;exact ⟨⟨m+1,_,by omega,by go_num,HU2.out,HC4.out,HB4.out⟩,by simp [intOf];omega⟩
    ·obtain rfl:m=sz:=by omega
     have HU2:Hid (∀ n,n<16→u' n=usedBy ((l.take (k+1)).map PV.plc) n):=by
      intro n hn;rw [HU'.out n hn,HUT.out]
     clear HU' HUT HU;go_wp2;exact ⟨⟨k+1,u',by omega,by go_num,HU2.out,C3,B3⟩,by simp [intOf];omega⟩
  ·obtain rfl:k=l.length:=by omega
   have HSC:Hid (scan u 16=runsFrom 0 (l.map PV.plc)):=by
    have:=scan_runs (u:=u) (l:=l.map PV.plc) (e:=0) HOK.out (.inl rfl) (fun j _ hj=>by rw [HU.out j hj,List.take_length])
    rw [show scan u 0=[] from rfl,List.nil_append] at this;exact this
   obtain ⟨ii,hii,hz0,hz1,hz2⟩:=infoRun_parts;clear HU HOK hx0;go_wp2_with fail
   rename World=>w5
   go_loopw [6,7] (fun f i wr=>∃ (k:Nat),k≤16∧i=.int .i64 k∧wr.ownsRow w5.heap.size 48 2 f (scan u k).length ((scan u k).flatMap runC)∧Below w5.heap.size w5 wr) (fun _ i _=>16-(intOf i).toNat)
   case atStart=>exact ⟨0,by omega,rfl,⟨rfl,.inl ⟨rfl,rfl⟩⟩,Below.refl _ _⟩
   case round=>
    obtain ⟨k,hk,rfl,hown,Bq⟩:=hrel
    by_cases hk16:k<16
    ·have Cq:=C.below Bq C.lt
     have t0:=(Cq.cell k).trans (usedArr_get u hk16);have hlen:=scan_len u k;have hb5:w5.heap.size≤wr.heap.size:=Bq.size;have HST:Hid (scan u (k+1)=ZbA u k (scan u k)):=(rfl:scan u (k+1)=ZbA u k (scan u k));have hdk:decide ((k:Int)<16)=true:=decide_eq_true (by omega)
     cases huk:u k with
     | true=>
      rw [huk] at t0;have HNX:Hid (scan u (k+1)=scan u k):=by
       show scan u (k+1)=scan u k
       rw [HST.out];unfold ZbA;rw [if_pos huk]
      obtain ⟨av,kv,rfl⟩:=Zae hown;have HO:Hid (wr.ownsRow w5.heap.size 48 2 (.slice av (scan u k).length kv) (scan u (k+1)).length ((scan u (k+1)).flatMap runC)):=by
       show wr.ownsRow w5.heap.size 48 2 (.slice av (scan u k).length kv) (scan u (k+1)).length ((scan u (k+1)).flatMap runC)
       rw [HNX.out];exact hown
      clear hown HST huk Cq HNX;generalize (scan u k).length=n at *;go_wp2;exact ⟨⟨k+1,by omega,by go_num,HO.out,Bq⟩,by simp [intOf];omega⟩
     | false=>
      rw [huk] at t0
      rcases Nat.eq_zero_or_pos k with hk0 | hkp
      ·subst hk0
       have HNX:Hid (scan u (0+1)=scan u 0++[(((0:Nat):Int),1)]):=by
        show scan u (0+1)=_
        rw [HST.out];unfold ZbA;rw [if_neg (by rw [huk];decide),if_neg (by omega)]
       clear HST huk Cq;have HN:Hid ((scan u 0).length=0):=(rfl:(scan u 0).length=0);have hown':wr.ownsRow w5.heap.size 48 2 _ 0 ([]:List Value):=hown;obtain ⟨av,kv,rfl⟩:=Zae hown';clear hown;go_wp2_with (at_builtin;refine wpList_append_lies _ rfl _ _ _ rfl w5.heap.size 48 ii _ 2 16 Tryz.underlying44 hii hz0 hz1 hz2 rfl (by omega) (.slice av 0 kv) 0 [] rfl (hown'.alloc _) ⟨wr.heap.size,0,none⟩ 1 1 [.int .i64 0,.int .i64 1] rfl rfl (World.news_of_block (cs:=#[.int .i64 0,.int .i64 1]) (t:=48) (fr:=(0,0)) (Za.new wr 48 #[.int .i64 0,.int .i64 1])) (by simp [Value.oneCell']) (by omega) (by unfold maxLen;omega) (by omega) (by simp;omega) (wr.heap.size+1) (by simp) ?_;intro g gc w8 hown8 hgrow hat hltg);refine ⟨⟨1,by omega,by go_num,?_,?_⟩,by simp [intOf]⟩
       ·rw [show scan u 1=scan u 0++[(((0:Nat):Int),1)] from HNX.out]
        exact hown8
       ·exact (Bq.alloc Bq.size _).grown hgrow (by simp;omega) (fun j hj=>ZaP hown' j hj)
      ·obtain ⟨m,hkm⟩:∃ m,k=m+1:=⟨k-1,by omega⟩
       have hm16:m<16:=by omega
       have t1:=(Cq.cell m).trans (usedArr_get u hm16);have hi0:(k:Int)-1=(m:Int):=by omega
       have hkp':(0:Int)<(k:Int):=by omega
       have HKM:Hid (k=m+1):=hkm;clear hkm
       cases hum:u m with
       | true=>
        rw [hum] at t1;have HNX:Hid (scan u (k+1)=scan u k++[((k:Int),1)]):=by
         show scan u (k+1)=_
         rw [HST.out];unfold ZbA;rw [if_neg (by rw [huk];decide),if_neg (by rintro ⟨_,h2⟩;rw [show k-1=m by have:=HKM.out;omega,hum] at h2;cases h2)]
        clear HST huk Cq hum;generalize hacc:scan u k=acc at *;clear hacc;obtain ⟨n,hn⟩:∃ n,acc.length=n:=⟨_,rfl⟩;have HN:Hid (acc.length=n):=hn;rw [hn] at hown hlen;clear hn;obtain ⟨av,kv,rfl⟩:=Zae hown;go_wp2_with (at_builtin;refine wpList_append_lies _ rfl _ _ _ rfl w5.heap.size 48 ii _ 2 16 Tryz.underlying44 hii hz0 hz1 hz2 rfl (by omega) (.slice av n kv) n (acc.flatMap runC) rfl (hown.alloc _) ⟨wr.heap.size,0,none⟩ 1 1 [.int .i64 k,.int .i64 1] rfl rfl (World.news_of_block (cs:=#[.int .i64 k,.int .i64 1]) (t:=48) (fr:=(0,0)) (Za.new wr 48 #[.int .i64 k,.int .i64 1])) (by simp [Value.oneCell']) (by omega) (by unfold maxLen;omega) (by omega) (by simp;omega) (wr.heap.size+1) (by simp) ?_;intro g gc w8 hown8 hgrow hat hltg);refine ⟨⟨k+1,by omega,by go_num,?_,?_⟩,by simp [intOf];omega⟩
        ·rw [HNX.out,List.length_append,List.flatMap_append,HN.out]
         exact hown8
        ·exact (Bq.alloc Bq.size _).grown hgrow (by simp;omega) (fun j hj=>ZaP hown j hj)
       | false=>
        rw [hum] at t1;obtain ⟨pre,pa,pb,hs1,hb0,hb1⟩:=scan_last hum;rw [← HKM.out] at hs1;have HNX:Hid (scan u (k+1)=pre++[(pa,pb+1)]):=by
         show scan u (k+1)=_
         rw [HST.out];unfold ZbA;rw [if_neg (by rw [huk];decide),if_pos ⟨hkp,by rw [show k-1=m by have:=HKM.out;omega];exact hum⟩,hs1,bump_snoc]
        rw [hs1] at hown hlen;clear HST huk Cq hum hs1
        rcases hown.2 with ⟨_,hz⟩ | ⟨g,cp,cur,hv,hg,hc,hn,hm,hsz,htk⟩
        ·simp at hz
        subst hv;have Cg:Za wr g 48 cur:=hc;have hcell:wr.cell? ⟨g,pre.length*2+1,none⟩=some (.int .i64 pb):=by
         have h1:((pre++[(pa,pb)]).flatMap runC)[pre.length*2+1]?=some (.int .i64 pb):=by
          have:=flat_at (C:=runC) (sz:=2) (fun _=>rfl) (pre++[(pa,pb)]) pre.length (pa,pb) 1 (by simp) (by omega)
          rw [this];rfl
         have:=hown.cells (g:=g) rfl (pre.length*2+1) _ h1
         have hadd:(⟨g,0,none⟩:Addr).add (pre.length*2+1)=⟨g,pre.length*2+1,none⟩:=by unfold Addr.add;split <;> simp_all
         rw [hadd] at this;exact this
        have hfr:=Cg.frozen (pre.length*2+1);have HO:Hid ((wr.setCell ⟨g,pre.length*2+1,none⟩ (.int .i64 (pb+1))).ownsRow w5.heap.size 48 2 (.slice (some ⟨g,0,none⟩) (pre++[(pa,pb)]).length cp) (scan u (k+1)).length ((scan u (k+1)).flatMap runC)):=by
         have:=own_set hown (pre.length*2+1) (.int .i64 (pb+1))
         rw [flat_set] at this
         show (wr.setCell ⟨g,pre.length*2+1,none⟩ (.int .i64 (pb+1))).ownsRow w5.heap.size 48 2 (.slice (some ⟨g,0,none⟩) (pre++[(pa,pb)]).length cp) (scan u (k+1)).length ((scan u (k+1)).flatMap runC)
         rw [HNX.out]
         simpa using this
        have HB:Hid (Below w5.heap.size w5 (wr.setCell ⟨g,pre.length*2+1,none⟩ (.int .i64 (pb+1)))):=Bq.setCell hg _;have hnl:((pre++[(pa,pb)]).length:Int)-1=(pre.length:Int):=by simp
        have hnl2:pre.length<(pre++[(pa,pb)]).length:=by simp
        have hpl:(pre++[(pa,pb)]).length≤16:=by omega
        clear hown Cg hc hn hm hsz htk HNX;generalize (pre++[(pa,pb)]).length=n at *;generalize pre.length=p at *;go_wp2;exact ⟨⟨k+1,by omega,by go_num,HO.out,HB.out⟩,by simp [intOf];omega⟩
    ·obtain rfl:k=16:=by omega
     obtain ⟨av,kv,rfl⟩:=Zae hown;have HR:Hid (Zal 2 Zbu wr.heap.size wr (.slice av (scan u 16).length kv) (runsFrom 0 (l.map PV.plc))):=by
      have:=ZbX (C:=runC) (cells:=Zbu) (sz:=2) (fun _=>rfl) runC_at hown (Nat.le_trans (scan_len u 16) (by omega))
      show Zal 2 Zbu wr.heap.size wr (.slice av (scan u 16).length kv) (runsFrom 0 (l.map PV.plc))
      rw [HSC.out] at this ⊢;exact this
     have HBB:Hid (Below w.heap.size w wr):=B.trans (Bq.mono B.size);clear hown;go_wp2;go_ret;exact ⟨⟨_,rfl,HR.out⟩,HBB.out⟩
def fitRes (o:Option (Int × Int)):Int:=match o with | none=>-1 | some r=>r.1
theorem fitOf_any (l:List PV) (v:Value) (many:Int) (w:World) (hrow:Zax w.heap.size w v l) (h0:Zas (l.map PV.plc)=0) :
  Calls Tryz.prog 51 #[v,.int .i64 many] w fun e w'=>e=.returned (.int .i64 (fitRes (Zch many (runsFrom 0 (l.map PV.plc)))))∧Below w.heap.size w w':=by
 have HF:Hid (∀ W,Below w.heap.size w W→Calls Tryz.prog 113 #[v] W fun e w'=>(∃ r,e=.returned r∧Zal 2 Zbu w'.heap.size w' r (runsFrom 0 (l.map PV.plc)))∧Below W.heap.size W w'):=fun W hb=>freeOf_any l v W ((hrow.below hb).more hb.size) h0;obtain ⟨⟨a,cap,rfl,_,_⟩,_⟩:=hrow;clear h0;generalize runsFrom 0 (l.map PV.plc)=FR at *;generalize l.length=ll at *
 go_enter Tryz.func51,Tryz.ntmps51
 go_wp2_with fail;refine (HF.out w (Below.refl _ _)).mono ?_;rintro e w1 ⟨⟨r,rfl,hR⟩,B1⟩;clear HF;obtain ⟨ar,kr,rfl,hml,hR⟩:=hR;go_wp2_with fail
 go_loopw [6] (fun i wr=>∃ (k:Nat),k≤FR.length∧i=.int .i64 k∧Hid (Zch many FR=Zch many (FR.drop k))∧wr=w1) (fun i _=>FR.length-(intOf i).toNat)
 case atStart=>exact ⟨0,Nat.zero_le _,rfl,by show Zch many FR=Zch many (FR.drop 0);rfl,rfl⟩
 case round=>
  obtain ⟨k,hk,rfl,HC,rfl⟩:=hrel
  by_cases hlt:k<FR.length
  ·obtain ⟨x,hx⟩:∃ x,FR[k]?=some x:=⟨_,List.getElem?_eq_getElem hlt⟩
   rcases hR with h | ⟨b,off,rfl,hbn,hcells⟩
   ·subst h;simp at hlt
   have c0:=hcells k _ hx 0 (by omega);have c1:=hcells k _ hx 1 (by omega);have HR:Hid (Zch many FR=if many≤x.2 then some x else Zch many (FR.drop (k+1))):=by
    show Zch many FR=_
    rw [HC.out,drop_at hx];unfold Zch;rw [List.find?_cons]
    by_cases h:many≤x.2
    ·rw [if_pos h,decide_eq_true h]
    ·rw [if_neg h,decide_eq_false h]
   obtain ⟨x1,x2⟩:=x;dsimp only [Zbu] at c0 c1 HR;rw [Nat.add_zero] at c0;clear HC hcells hx
   by_cases h:many≤x2
   ·have HZ:Hid (Zch many FR=some (x1,x2)):=by
     show Zch many FR=_
     rw [HR.out,if_pos h]
    clear HR;go_wp2;go_ret;exact ⟨by rw [HZ.out];rfl,B1⟩
   ·have h':decide (many≤x2)=false:=decide_eq_false h
    have HZ:Hid (Zch many FR=Zch many (FR.drop (k+1))):=by
     show Zch many FR=_
     rw [HR.out,if_neg h]
    clear HR;go_wp2;exact ⟨⟨k+1,by omega,by go_num,HZ.out,by first | rfl | trivial⟩,by simp [intOf];omega⟩
  ·obtain rfl:k=FR.length:=by omega
   have HZ:Hid (Zch many FR=none):=by
    show Zch many FR=none
    rw [HC.out,List.drop_length];rfl
   go_wp2;go_ret;exact ⟨by rw [HZ.out];rfl,B1⟩
end Go.Proofs.YtlpnfbpgnfappaaGreat
namespace Go.Proofs.YtlpnfbpgnfappaaGreat
open Go.RowKit Go.PlainAid Go.Lib
theorem fit_ge {L:List Plc} {many:Int} {r:Int × Int} (h:Zas L=0) (hf:Zch many (runsFrom 0 L)=some r):0≤r.1∧r.1≤100:=by
 have:=runs_bd h r (List.mem_of_find?_eq_some hf)
 exact ⟨this.1,this.2.1⟩
theorem inst_doc (l:List PV) (M:Mod) (h0:Zas (l.map PV.plc)=0) (h8:l.length≤8) :
  (Zac M≠0∧Zbd (l.map PV.plc) M=([],Zac M))∨
  (Zac M=0∧(∃ j:Nat,Zag (fun x:PV=>x.mod.name == M.name) 0 l=(j:Int))∧Zbd (l.map PV.plc) M=([],6))∨
  (Zac M=0∧Zag (fun x:PV=>x.mod.name == M.name) 0 l = -1∧l.length=8∧Zbd (l.map PV.plc) M=([],2))∨
  (Zac M=0∧Zag (fun x:PV=>x.mod.name == M.name) 0 l = -1∧l.length≠8∧fitRes (Zch (szM M) (runsFrom 0 (l.map PV.plc))) = -1∧Zbd (l.map PV.plc) M=([],8))∨
  (Zac M=0∧Zag (fun x:PV=>x.mod.name == M.name) 0 l = -1∧l.length≠8∧∃ f,0≤f∧fitRes (Zch (szM M) (runsFrom 0 (l.map PV.plc)))=f∧Zbd (l.map PV.plc) M=(putAt (l.map PV.plc) ⟨M,f⟩,0)):=by
 rcases inst_cases l M h0 with ⟨h1,h2⟩ | ⟨h1,h2,h3⟩ | ⟨h1,h2,h3,h4⟩ | ⟨h1,h2,h3,h4,h5⟩ | ⟨h1,h2,h3,f,h4,h5⟩
 ·exact .inl ⟨h1,h2⟩
 ·exact .inr (.inl ⟨h1,h2,h3⟩)
 ·exact .inr (.inr (.inl ⟨h1,h2,by omega,h4⟩))
 ·have hs:=Zco h1
  unfold Zbp at h4;rw [if_neg (by omega),if_neg (by omega)] at h4;refine .inr (.inr (.inr (.inl ⟨h1,h2,by omega,?_,h5⟩)))
  cases hq:Zch (szM M:Int) (runsFrom 0 (l.map PV.plc)) with
  | none=>rfl
  | some r=>rw [hq] at h4;have h5:(0:Int)=8:=congrArg Prod.snd h4;omega
 ·have hs:=Zco h1
  unfold Zbp at h4;rw [if_neg (by omega),if_neg (by omega)] at h4;refine .inr (.inr (.inr (.inr ⟨h1,h2,by omega,f,?_,?_,h5⟩)))
  ·cases hq:Zch (szM M:Int) (runsFrom 0 (l.map PV.plc)) with
   | none=>rw [hq] at h4;have h5:(8:Int)=0:=congrArg Prod.snd h4;omega
   | some r=>
    rw [hq] at h4;injection h4 with h4 _
    have:=fit_ge h0 hq
    omega
  ·cases hq:Zch (szM M:Int) (runsFrom 0 (l.map PV.plc)) with
   | none=>rw [hq] at h4;have h5:(8:Int)=0:=congrArg Prod.snd h4;omega
   | some r=>
    rw [hq] at h4;injection h4
theorem planRes_zero {K:Ker} {L:List Plc} {D:List Plc × Int} (h:Zaq K L=0):Zan K L D=if D.2≠0 then ((emptyK,[]),D.2) else if Zaq K D.1≠0 then ((emptyK,[]),Zaq K D.1) else ((K,D.1),0):=by
 unfold Zan;rw [if_neg (by omega)]
theorem putV_fits {l:List PV} {X:PV} (h:∀ x∈l,x.mod.fits) (hx:X.mod.fits):∀ y∈putV l X,y.mod.fits:=fun y hy=>by
 rcases mem_putV hy with rfl | hy
 ·exact hx
 ·exact h y hy
end Go.Proofs.YtlpnfbpgnfappaaGreat
namespace Go.Proofs.YtlpnfbpgnfappaaGreat
open Go.RowKit Go.PlainAid
theorem checkKernel_any (K:Ker) (v:Value) (w:World) (hK:Zcd w.heap.size w v K) (hf:K.fits) :
  Calls Tryz.prog 103 #[v] w fun e w'=>e=.returned (.int .i64 (ZaS K))∧Below w.heap.size w w':=by
 obtain ⟨ve,rfl,hE⟩:=hK;have HE:Hid (∀ w',Below w.heap.size w w'→K.exps.length≤8→Calls Tryz.prog 110 #[ve,.int .i64 4096] w' fun e w''=>e=.returned (.int .i64 (Zay 4096 [] K.exps))∧Below w'.heap.size w' w''):=
  fun w' hb hl=>checkExports_any K.exps ve _ w' ((hE.below hb).more hb.size) hf hl (by decide) (by decide)
 obtain ⟨pe,ke,rfl,_,hE⟩:=hE;clear hE hf;have key:(betw K.major 0 255=false∧ZaS K=3)∨(betw K.major 0 255=true∧betw K.minor 0 255=false∧ZaS K=3)∨(betw K.major 0 255=true∧betw K.minor 0 255=true∧8<K.exps.length∧ZaS K=2)∨(betw K.major 0 255=true∧betw K.minor 0 255=true∧K.exps.length≤8∧ZaS K=Zay 4096 [] K.exps):=by
  unfold ZaS Zcg
  cases h1:betw K.major 0 255
  ·exact .inl ⟨rfl,rfl⟩
  cases h2:betw K.minor 0 255
  ·exact .inr (.inl ⟨rfl,rfl,rfl⟩)
  ·by_cases h3:8<K.exps.length
   ·exact .inr (.inr (.inl ⟨rfl,rfl,h3,by rw [if_neg (by decide),if_pos h3]⟩))
   ·exact .inr (.inr (.inr ⟨rfl,rfl,by omega,by rw [if_neg (by decide),if_neg h3]⟩))
 generalize ZaS K=R at *;generalize Zay 4096 [] K.exps=ce at *;obtain ⟨ma,mi,es⟩:=K;dsimp only at *;generalize es.length=le at *;have HW1:Hid (Below w.heap.size w (w.alloc (.cells #[.int .i64 ma,.int .i64 mi,.slice pe le ke] 24))):=(Below.refl _ _).alloc (Nat.le_refl _) _
 rcases key with ⟨h1,rfl⟩ | ⟨h1,h2,rfl⟩ | ⟨h1,h2,h3,rfl⟩ | ⟨h1,h2,h3,rfl⟩
 ·go_enter Tryz.func103,Tryz.ntmps103
  go_wp2_with (go_at_call 109;refine (Zaj _ _ _ _).mono ?_;rintro e w' ⟨rfl,rfl⟩);go_ret;exact ⟨rfl,HW1.out⟩
 ·go_enter Tryz.func103,Tryz.ntmps103
  go_wp2_with (go_at_call 109;refine (Zaj _ _ _ _).mono ?_;rintro e w' ⟨rfl,rfl⟩);go_ret;exact ⟨rfl,HW1.out⟩
 ·have h3':(8:Int)<le:=by omega
  go_enter Tryz.func103,Tryz.ntmps103
  go_wp2_with (go_at_call 109;refine (Zaj _ _ _ _).mono ?_;rintro e w' ⟨rfl,rfl⟩);go_ret;exact ⟨rfl,HW1.out⟩
 ·have h3':decide ((8:Int)<le)=false:=decide_eq_false (by omega)
  have h3'':decide (8<le)=false:=decide_eq_false (by omega)
  go_enter Tryz.func103,Tryz.ntmps103
  go_wp2_with (go_at_call 109;refine (Zaj _ _ _ _).mono ?_;rintro e w' ⟨rfl,rfl⟩);refine (HE.out _ HW1.out h3).mono ?_;rintro e w1 ⟨rfl,b1⟩;go_wp2;go_ret;exact ⟨rfl,HW1.out.trans (b1.mono HW1.out.size)⟩
def posOf:Option Exp→Int
 | none=>-1
 | some x=>x.pos
theorem exportAt_any (l:List Exp) (v:Value) (name:ByteArray) (w:World) (hrow:Zal 2 Exp.cell w.heap.size w v l) :
  Calls Tryz.prog 204 #[v,.string name] w fun e w'=>e=.returned (.int .i64 (posOf (expOf l name)))∧Below w.heap.size w w':=by
 obtain ⟨a,cap,rfl,_,hrow⟩:=hrow
 go_enter Tryz.func204,Tryz.ntmps204
 go_wp2_with fail
 go_loopw [5] (fun i wr=>∃ (k:Nat),k≤l.length∧i=.int .i64 k∧Hid (expOf l name=expOf (l.drop k) name)∧Below w.heap.size w wr) (fun i _=>l.length-(intOf i).toNat)
 case atStart=>exact ⟨0,Nat.zero_le _,rfl,by show expOf l name=expOf (l.drop 0) name;rfl,Below.refl _ _⟩
 case round=>
  obtain ⟨k,hk,rfl,HC,B⟩:=hrel
  by_cases hlt:k<l.length
  ·obtain ⟨x,hx⟩:∃ x,l[k]?=some x:=⟨_,List.getElem?_eq_getElem hlt⟩
   rcases hrow with h | ⟨b,off,rfl,hbn,hcells⟩
   ·subst h;simp at hlt
   have c0:=(B.cell (p:=⟨b,off+k*2+0,none⟩) hbn).trans (hcells k _ hx 0 (by omega));have c1:=(B.cell (p:=⟨b,off+k*2+1,none⟩) hbn).trans (hcells k _ hx 1 (by omega));dsimp only [Exp.cell] at c0 c1;rw [Nat.add_zero] at c0;have hC:=HC.out;rw [drop_at hx] at hC;unfold expOf at hC;rw [List.find?_cons] at hC
   cases hq:x.name == name
   ·rw [hq] at hC
    have HR:Hid (expOf l name=expOf (l.drop (k+1)) name):=hC;clear hC HC hcells hx;rw [← Zbg] at hq;go_wp2;exact ⟨⟨k+1,by omega,by go_num,HR.out,B⟩,by simp [intOf];omega⟩
   ·rw [hq] at hC
    have HR:Hid (expOf l name=some x):=hC;clear hC HC hcells hx;rw [← Zbg] at hq;go_wp2;go_ret;exact ⟨by rw [HR.out];rfl,B⟩
  ·obtain rfl:k=l.length:=by omega
   have HZ:Hid (expOf l name=none):=by
    show expOf l name=none
    rw [HC.out,List.drop_length];rfl
   go_wp2;go_ret;exact ⟨by rw [HZ.out];rfl,B⟩
theorem placeOf_any (l:List PV) (v:Value) (name:ByteArray) (w:World) (hrow:Zal 8 PV.cell w.heap.size w v l) :
  Calls Tryz.prog 50 #[v,.string name] w fun e w'=>e=.returned (.int .i64 (idxFrom (fun x:PV=>x.mod.name == name) 0 l))∧Below w.heap.size w w':=by
 obtain ⟨a,cap,rfl,_,hrow⟩:=hrow;have HST:Hid (∀ k x r,idxFrom (fun x:PV=>x.mod.name == name) k (x::r)=if (x.mod.name == name)=true then (k:Int) else idxFrom (fun x:PV=>x.mod.name == name) (k+1) r):=fun _ _ _=>rfl;have HNL:Hid (∀ k,idxFrom (fun x:PV=>x.mod.name == name) k [] = -1):=fun _=>rfl;generalize idxFrom (fun x:PV=>x.mod.name == name)=IX at *
 go_enter Tryz.func50,Tryz.ntmps50
 go_wp2_with fail
 go_loopw [5] (fun i wr=>∃ (k:Nat),k≤l.length∧i=.int .i64 k∧Hid (IX 0 l=IX k (l.drop k))∧Below w.heap.size w wr) (fun i _=>l.length-(intOf i).toNat)
 case atStart=>exact ⟨0,Nat.zero_le _,rfl,by show IX 0 l=IX 0 (l.drop 0);rfl,Below.refl _ _⟩
 case round=>
  obtain ⟨k,hk,rfl,HC,B⟩:=hrel
  by_cases hlt:k<l.length
  ·obtain ⟨x,hx⟩:∃ x,l[k]?=some x:=⟨_,List.getElem?_eq_getElem hlt⟩
   rcases hrow with h | ⟨b,off,rfl,hbn,hcells⟩
   ·subst h;simp at hlt
   have c0:=(B.cell (p:=⟨b,off+k*8+0,none⟩) hbn).trans (hcells k _ hx 0 (by omega));dsimp only [PV.cell] at c0;rw [Nat.add_zero] at c0;have hC:=HC.out;rw [drop_at hx,HST.out] at hC
   cases hq:x.mod.name == name
   ·rw [hq,if_neg (by decide)] at hC
    have HR:Hid (IX 0 l=IX (k+1) (l.drop (k+1))):=hC;clear hC HC hcells hx;rw [← Zbg] at hq;go_wp2;exact ⟨⟨k+1,by omega,by go_num,HR.out,B⟩,by simp [intOf];omega⟩
   ·rw [hq,if_pos rfl] at hC
    have HR:Hid (IX 0 l=k):=hC;clear hC HC hcells hx;rw [← Zbg] at hq;go_wp2;go_ret;exact ⟨by rw [HR.out];rfl,B⟩
  ·obtain rfl:k=l.length:=by omega
   have HZ:Hid (IX 0 l = -1):=by
    show IX 0 l = -1
    rw [HC.out,List.drop_length,HNL.out]
   go_wp2;go_ret;exact ⟨by rw [HZ.out];rfl,B⟩
end Go.Proofs.YtlpnfbpgnfappaaGreat
namespace Go.Proofs.YtlpnfbpgnfappaaGreat
open Go.RowKit Go.PlainAid Go.Lib Go.Sort Go.BigFrame
theorem idx_ix {α:Type} (p:α→Bool):∀ (q:List α) (k:Nat),idxFrom p k q=Zag p k q
 | [],_=>rfl
 | x::q,k=>by
  have h1:idxFrom p k (x::q)=if p x then (k:Int) else idxFrom p (k+1) q:=rfl;have h2:Zag p k (x::q)=if p x then (k:Int) else Zag p (k+1) q:=rfl;rw [h1,h2,idx_ix p q (k+1)]
end Go.Proofs.YtlpnfbpgnfappaaGreat
namespace Go.Proofs.YtlpnfbpgnfappaaGreat
open Go.RowKit Go.PlainAid Go.Lib
theorem reg_cells4 {W:World} {B:Nat} {t:TypeId} {x y:Int} {p q:Option Addr} {a b c d:Nat} (h:Za W B t #[.int .i64 x,.int .i64 y,.slice p a b,.slice q c d]) (off:Nat) :
  (∀ s,W.cell? ⟨B,off,none⟩≠some (.string s))∧∀ a b c,W.cell? ⟨B,off,none⟩=some (.int .i64 a)→W.cell? ⟨B,off+1,none⟩=some (.int .i64 b)→W.cell? ⟨B,off+2,none⟩≠some (.int .i64 c):=by
 have c0:=h.cell off;have c1:=h.cell (off+1);have c2:=h.cell (off+2);rw [c0,c1,c2]
 match off with
 | 0=>simp
 | 1=>simp
 | 2=>simp
 | 3=>simp
 | k+4=>simp
theorem Zaw.apart4 {n:Nat} {W W':World} {v:Value} {K:Ker} {l:List PV} (h:Zaw n W v K l) {B:Nat} {t:TypeId} (hg:W.grownBy W' (some B)) (hn:n≤W.heap.size) {x y:Int} {p q:Option Addr} {a b c d:Nat} (hB:Za W B t #[.int .i64 x,.int .i64 y,.slice p a b,.slice q c d]):Zaw n W' v K l:=by
 obtain ⟨ve,vl,e,h1,h2,h3⟩:=h;refine ⟨ve,vl,e,h1.apart hg hn ?_,h2.apart hg hn ?_,fun x hx=>?_⟩
 ·intro off x _ hc
  exact (reg_cells4 hB off).1 _ (hc 0 (by omega))
 ·intro off x _ hc
  exact (reg_cells4 hB off).1 _ (hc 0 (by omega))
 ·obtain ⟨g1,g2,g3⟩:=h3 x hx
  refine ⟨g1.apart hg hn ?_,g2.apart hg hn ?_,g3.apart hg hn ?_⟩
  ·intro off x _ hc
   exact (reg_cells4 hB off).1 _ (hc 0 (by omega))
  ·intro off x _ hc
   exact (reg_cells4 hB off).1 _ (hc 0 (by omega))
  ·intro off x _ hc
   exact (reg_cells4 hB off).2 _ _ _ (hc 0 (by omega)) (hc 1 (by omega)) (hc 2 (by omega))
theorem Zaw.shape {n:Nat} {W:World} {v:Value} {K:Ker} {l:List PV} (h:Zaw n W v K l):∃ q j a c,v=.agg #[.int .i64 K.major,.int .i64 K.minor,.slice q K.exps.length j,.slice a l.length c]:=by
 obtain ⟨ve,vl,rfl,⟨q,j,rfl,_,_⟩,⟨⟨a,c,rfl,_,_⟩,_⟩⟩:=h;exact ⟨q,j,a,c,rfl⟩
end Go.Proofs.YtlpnfbpgnfappaaGreat
namespace Go.Proofs.YtlpnfbpgnfappaaGreat
open Go.RowKit Go.PlainAid
theorem addrOf_tgt {K:Ker} {l:List Plc} {i:Imp} {t:Tgt} (h:tgtOf K l i.mod=some t):(t.major≠i.major∧addrOf K l i=(0,4))∨(t.major=i.major∧t.minor<i.minor∧addrOf K l i=(0,4))∨
  (t.major=i.major∧i.minor≤t.minor∧(expOf t.exps i.name=none∧addrOf K l i=(0,5)∨∃ x,expOf t.exps i.name=some x∧addrOf K l i=(t.beg+x.pos,0))):=by
 rcases addrOf_cases K l i with ⟨h1,_⟩ | ⟨t',h1,h2⟩
 ·rw [h] at h1;cases h1
 ·rw [h] at h1
  rw [← Option.some.inj h1] at h2;exact h2
theorem addressOf_any (K:Ker) (vk:Value) (l:List PV) (v:Value) (i:Imp) (w:World) (hK:Zcd w.heap.size w vk K) (hrow:Zax w.heap.size w v l) (h0:ZaQ K (l.map PV.plc)=0) :
  Calls Tryz.prog 182 #[vk,v,.agg #[.string i.mod,.string i.name,.int .i64 i.major,.int .i64 i.minor]] w fun e w'=>e=.returned (.tuple #[.int .i64 (addrOf K (l.map PV.plc) i).1,.int .i64 (addrOf K (l.map PV.plc) i).2])∧Below w.heap.size w w':=by
 have HX:Hid (∀ (es:List Exp) (ve:Value) W,Below w.heap.size w W→Zal 2 Exp.cell w.heap.size w ve es→Calls Tryz.prog 204 #[ve,.string i.name] W fun e w'=>e=.returned (.int .i64 (posOf (expOf es i.name)))∧Below W.heap.size W w'):=
  fun es ve W hb hr=>exportAt_any es ve i.name W ((hr.below hb).more hb.size)
 have HP:Hid (∀ W,Below w.heap.size w W→Calls Tryz.prog 50 #[v,.string i.mod] W fun e w'=>e=.returned (.int .i64 (idxFrom (fun x:PV=>x.mod.name == i.mod) 0 l))∧Below W.heap.size W w'):=
  fun W hb=>placeOf_any l v i.mod W ((hrow.1.below hb).more hb.size)
 obtain ⟨vke,rfl,hE⟩:=hK;have hE0:=hE;obtain ⟨pe,ke,rfl,_,_⟩:=hE;have hat:=hrow.2;obtain ⟨⟨a,cap,rfl,_,hrow⟩,_⟩:=hrow;have hbd:=fun t (ht:tgtOf K (l.map PV.plc) i.mod=some t)=>tgt_bd h0 ht;have hfst:∀ x∈l,0≤x.first∧x.first≤15:=fun x hx=>by
  have:=(chkFind_zero h0).2.2 x.plc (List.mem_map_of_mem hx)
  exact ⟨this.2.1,this.2.2⟩
 have hcase:=tgt_cases K l i.mod;have hidx:=idx_find (fun x:PV=>x.mod.name == i.mod) l 0;have hnone:tgtOf K (l.map PV.plc) i.mod=none→addrOf K (l.map PV.plc) i=(0,5):=fun h=>by unfold addrOf;rw [h]
 have hsome:=fun t (ht:tgtOf K (l.map PV.plc) i.mod=some t)=>addrOf_tgt ht;generalize addrOf K (l.map PV.plc) i=R at *;generalize tgtOf K (l.map PV.plc) i.mod=TT at *;generalize idxFrom (fun x:PV=>x.mod.name == i.mod) 0 l=IX at *;generalize hfd:l.find? (fun x:PV=>x.mod.name == i.mod)=FD at *;obtain ⟨ma,mi,es⟩:=K;obtain ⟨im,inm,ia,ib⟩:=i;dsimp only at *;clear h0;have HW2:Hid (Below w.heap.size w ((w.alloc (.cells #[.int .i64 ma,.int .i64 mi,.slice pe es.length ke] 24)).alloc (.cells #[.string im,.string inm,.int .i64 ia,.int .i64 ib] 106))):=((Below.refl _ _).alloc (Nat.le_refl _) _).alloc (by simp) _;have HC2:Hid (Za ((w.alloc (.cells #[.int .i64 ma,.int .i64 mi,.slice pe es.length ke] 24)).alloc (.cells #[.string im,.string inm,.int .i64 ia,.int .i64 ib] 106)) (w.heap.size+1) 106 #[.string im,.string inm,.int .i64 ia,.int .i64 ib]):=by
  have:=Za.new (w.alloc (.cells #[.int .i64 ma,.int .i64 mi,.slice pe es.length ke] 24)) 106 #[.string im,.string inm,.int .i64 ia,.int .i64 ib]
  rw [World.size_alloc] at this;exact this
 rcases hcase with ⟨g1,rfl⟩ | ⟨g1,⟨rfl,rfl⟩ | ⟨x,rfl,rfl⟩⟩
 ·rw [← Zcs] at g1
  have HXE:=fun W hb=>HX.out es _ W hb hE0;obtain ⟨q1,q2,q3,q4⟩:=hbd _ rfl;have HXF:Hid (∀ W,Below w.heap.size w W→Calls Tryz.prog 204 #[.slice pe es.length ke,.string inm] W fun e w'=>e=.returned (.int .i64 (posOf (expOf es inm)))∧Below W.heap.size W w'):=HXE;have key:=hsome _ rfl;dsimp only at key q1 q2 q3 q4
  rcases key with ⟨h1,rfl⟩ | ⟨rfl,h2,rfl⟩ | ⟨rfl,h2,⟨h3,rfl⟩ | ⟨x,h3,rfl⟩⟩
  ·have h1':(ma != ia)=true:=by simpa using h1
   clear HX HP HXE HXF hbd hsome hidx hnone
   go_enter Tryz.func182,Tryz.ntmps182
   go_wp2;go_ret2;exact ⟨rfl,HW2.out⟩
  ·clear HX HP HXE HXF hbd hsome hidx hnone
   go_enter Tryz.func182,Tryz.ntmps182
   go_wp2;go_ret2;exact ⟨rfl,HW2.out⟩
  ·rw [h3] at HXF
   dsimp only [posOf] at HXF;clear HX HP HXE hbd hsome hidx hnone
   go_enter Tryz.func182,Tryz.ntmps182
   go_wp2_with fail;refine (HXF.out _ HW2.out).mono ?_;rintro _ w3 ⟨rfl,b3⟩;go_wp2;go_ret2;exact ⟨rfl,HW2.out.trans (b3.mono HW2.out.size)⟩
  ·rw [h3] at HXF
   dsimp only [posOf] at HXF;obtain ⟨m1,m2,m3⟩:=q4 x (List.mem_of_find?_eq_some h3);clear HX HP HXE hbd hsome hidx hnone q4 h3
   go_enter Tryz.func182,Tryz.ntmps182
   go_wp2_with fail;refine (HXF.out _ HW2.out).mono ?_;rintro _ w3 ⟨rfl,b3⟩;go_wp2;go_ret2;exact ⟨by rw [show 0+x.pos=x.pos from by omega];rfl,HW2.out.trans (b3.mono HW2.out.size)⟩
 ·rw [← Zcs] at g1
  have hR:=hnone rfl;subst hR;have hIX:IX = -1:=by
   rcases hidx with ⟨_,h⟩ | ⟨j,x,h,_⟩
   ·exact h
   ·cases h
  subst hIX;clear HX hbd hsome hidx hnone
  go_enter Tryz.func182,Tryz.ntmps182
  go_wp2_with fail;refine (HP.out _ HW2.out).mono ?_;rintro _ w3 ⟨rfl,b3⟩;go_wp2;go_ret2;exact ⟨rfl,HW2.out.trans (b3.mono HW2.out.size)⟩
 ·rw [← Zcs] at g1
  obtain ⟨j,hj,hIX⟩:∃ j:Nat,l[j]?=some x∧IX=j:=by
   rcases hidx with ⟨h,_⟩ | ⟨j,x',h,h2,h3⟩
   ·cases h
   ·rw [← Option.some.inj h] at h2
    exact ⟨j,h2,by simpa using h3⟩
  subst hIX;obtain ⟨q1,q2,q3,q4⟩:=hbd _ rfl;have hx:=List.mem_of_getElem? hj;obtain ⟨f1,f2⟩:=hfst x hx;have hlt:j<l.length:=(List.getElem?_eq_some_iff.1 hj).1
  rcases hrow with h | ⟨b,off,rfl,hbn,hcells⟩
  ·subst h;simp at hlt
  have hXR:=(hat x hx).1;obtain ⟨⟨qe,je,e4,_⟩,⟨qi,ji,e5,_⟩,⟨qp,jp,e6,_⟩⟩:=hat x hx;obtain ⟨⟨N,xa,xi,T,xs,is,ps⟩,ve,vi,vp,fi⟩:=x;dsimp only at *;subst e4 e5 e6;have HXF:Hid (∀ W,Below w.heap.size w W→Calls Tryz.prog 204 #[.slice qe xs.length je,.string inm] W fun e w'=>e=.returned (.int .i64 (posOf (expOf xs inm)))∧Below W.heap.size W w'):=fun W hb=>HX.out xs _ W hb hXR;have c0:=hcells j _ hj 0 (by omega);have c1:=hcells j _ hj 1 (by omega);have c2:=hcells j _ hj 2 (by omega);have c3:=hcells j _ hj 3 (by omega);have c4:=hcells j _ hj 4 (by omega);have c5:=hcells j _ hj 5 (by omega);have c6:=hcells j _ hj 6 (by omega);have c7:=hcells j _ hj 7 (by omega);dsimp only [PV.cell] at c0 c1 c2 c3 c4 c5 c6 c7;rw [Nat.add_zero] at c0;have key:=hsome _ rfl;dsimp only at key;clear HX hbd hsome hidx hnone hat hXR hx hj hcells hfst hE0 hfd;generalize is.length=li at *;generalize ps.length=lp at *
  go_enter Tryz.func182,Tryz.ntmps182
  go_wp2_with fail;refine (HP.out _ HW2.out).mono ?_;rintro _ w3 ⟨rfl,b3⟩;have B3:=HW2.out.trans (b3.mono HW2.out.size);have C3:=HC2.out.below b3 (by simp);have d0:=(B3.cell (p:=⟨b,off+j*8,none⟩) hbn).trans c0;have d1:=(B3.cell (p:=⟨b,off+j*8+1,none⟩) hbn).trans c1;have d2:=(B3.cell (p:=⟨b,off+j*8+2,none⟩) hbn).trans c2;have d3:=(B3.cell (p:=⟨b,off+j*8+3,none⟩) hbn).trans c3;have d4:=(B3.cell (p:=⟨b,off+j*8+4,none⟩) hbn).trans c4;have d5:=(B3.cell (p:=⟨b,off+j*8+5,none⟩) hbn).trans c5;have d6:=(B3.cell (p:=⟨b,off+j*8+6,none⟩) hbn).trans c6;have i1:=C3.cell 1;have i2:=C3.cell 2;have i3:=C3.cell 3;have iz:=C3.lt;simp at i1 i2 i3;clear b3 HW2 HC2 HP c0 c1 c2 c3 c4 c5 c6;have HB4:Hid (Below w.heap.size w (w3.alloc (.cells #[.string N,.int .i64 xa,.int .i64 xi,.string T,.slice qe xs.length je,.slice qi li ji,.slice qp lp jp] 31))):=B3.alloc B3.size _
  rcases key with ⟨h1,rfl⟩ | ⟨rfl,h2,rfl⟩ | ⟨rfl,h2,⟨h3,rfl⟩ | ⟨x,h3,rfl⟩⟩
  ·have h1':(xa != ia)=true:=by simpa using h1
   go_wp2;go_ret2;exact ⟨rfl,HB4.out⟩
  ·go_wp2
   go_ret2;exact ⟨rfl,HB4.out⟩
  ·rw [h3] at HXF
   dsimp only [posOf] at HXF;go_wp2_with fail;refine (HXF.out _ HB4.out).mono ?_;rintro _ w5 ⟨rfl,b5⟩;go_wp2;go_ret2;exact ⟨rfl,HB4.out.trans (b5.mono HB4.out.size)⟩
  ·rw [h3] at HXF
   dsimp only [posOf] at HXF;obtain ⟨m1,m2,m3⟩:=q4 x (List.mem_of_find?_eq_some h3);clear q4 h3;go_wp2_with fail;refine (HXF.out _ HB4.out).mono ?_;rintro _ w5 ⟨rfl,b5⟩;have B5:=HB4.out.trans (b5.mono HB4.out.size);have d7:=(B5.cell (p:=⟨b,off+j*8+7,none⟩) hbn).trans c7;clear b5 HB4 HXF c7 d0 d1 d2 d3 d4 d5 d6;go_wp2;go_ret2;exact ⟨by rw [show 4096+fi*64+x.pos=4096+64*fi+x.pos from by omega];rfl,B5⟩
end Go.Proofs.YtlpnfbpgnfappaaGreat
