/- Texts that are laid together. -/
import Derived.Test.YtlpnfbpgnfappaaGreatMrgO
import Derived.Test.YtlpnfbpgnfappaaGreatMrgL
import Derived.Lib.QuietBelow
import Derived.Test.YtlpnfbpgnfappaaGreatMrgP
import Derived.Test.YtlpnfbpgnfappaaGreatMrgM
import Derived.Test.YtlpnfbpgnfappaaGreatMrgJ
import Derived.Test.YtlpnfbpgnfappaaGreatMrgC
import Derived.Test.YtlpnfbpgnfappaaGreatMrgK
import Derived.Laws.IdiomCopy
import Derived.Lib.AppendZerosOnto
import Derived.Shelf.RegionOpenPlain
import Derived.Deep.RegionLaw
import Derived.Lib.SliceRun
import Derived.Test.YtlpnfbpgnfappaaGreatMrgE
import Derived.Test.YtlpnfbpgnfappaaGreatMrgF
import Derived.Lib.Overlaps
import Derived.Laws.Externs
import Derived.Lib.Walk
set_option maxHeartbeats 256000000
set_option maxRecDepth 100000

namespace Go.Proofs.YtlpnfbpgnfappaaGreat
open Go.RowKit Go.PlainAid Go.Lib Go.Sort
theorem plc_at {l l':List PV} (h:l.map PV.plc=l'.map PV.plc) {k:Nat} {x:PV} (hx:l[k]?=some x):∃ y,l'[k]?=some y∧x.mod=y.mod∧x.first=y.first:=by
 have h1:(l.map PV.plc)[k]?=some x.plc:=by rw [List.getElem?_map,hx];rfl
 rw [h,List.getElem?_map] at h1
 cases hy:l'[k]? with
 | none=>rw [hy] at h1;cases h1
 | some y=>
  rw [hy] at h1;have h2:y.plc=x.plc:=by simpa using h1
  unfold PV.plc at h2;injection h2 with h3 h4;exact ⟨y,rfl,h3.symm,h4.symm⟩
theorem samePlaced_yes (l l':List PV) (v v':Value) (w:World) (h1:Zax w.heap.size w v l) (h2:Zax w.heap.size w v' l') (he:l.map PV.plc=l'.map PV.plc) :
  Calls Tryz.prog 77 #[v,v'] w fun e w'=>e=.returned (.bool true)∧Below w.heap.size w w':=by
 have hln:l.length=l'.length:=by have:=congrArg List.length he;simpa using this
 obtain ⟨⟨a,cap,rfl,hmax,hrow⟩,hat⟩:=h1;obtain ⟨⟨a',cap',rfl,hmax',hrow'⟩,hat'⟩:=h2;rw [← hln];clear hln hmax';have hne:((l.length:Int) != (l.length:Int))=false:=by simp
 go_enter Tryz.func77,Tryz.ntmps77
 go_wp2
 go_loopg [5] l.length (fun gk i wr=>∃ (k:Nat),Hid (gk=l.length-k)∧k≤l.length∧i=.int .i64 k∧Hid (Below w.heap.size w wr))
 case atStart=>exact ⟨0,(rfl:l.length=l.length-0),Nat.zero_le _,rfl,Below.refl _ _⟩
 case round=>
  obtain ⟨k,HGK,hk,rfl,HB⟩:=hrel;have B:=HB.out;clear HB
  by_cases hlt:k<l.length
  ·obtain ⟨x,hx⟩:∃ x,l[k]?=some x:=⟨_,List.getElem?_eq_getElem hlt⟩
   obtain ⟨y,hy,hmod,hfst⟩:=plc_at he hx
   rcases hrow with h | ⟨b,off,rfl,hbn,hcells⟩
   ·subst h;simp at hlt
   rcases hrow' with h | ⟨b',off',rfl,hbn',hcells'⟩
   ·subst h;simp at hy
   have px:=((hat x (List.mem_of_getElem? hx)).below B).more B.size;have py:=((hat' y (List.mem_of_getElem? hy)).below B).more B.size;have HS:Hid (∀ d os,Calls Tryz.prog 27 #[x.modV,y.modV] (grow (redrawn wr d) os) fun e w'=>e=.returned (.bool true)∧Below (grow (redrawn wr d) os).heap.size (grow (redrawn wr d) os) w'):=fun d os=>by
    have hb:=below_regrown wr d os;have q1:=((px.below hb).more hb.size).isMod;have q2:=((py.below hb).more hb.size).isMod;rw [hmod] at q1;exact sameModule_yes y.mod _ _ _ q1 q2
   have c0:=(B.cell (p:=⟨b,off+k*8+0,none⟩) hbn).trans (hcells k x hx 0 (by omega));have c1:=(B.cell (p:=⟨b,off+k*8+1,none⟩) hbn).trans (hcells k x hx 1 (by omega));have c2:=(B.cell (p:=⟨b,off+k*8+2,none⟩) hbn).trans (hcells k x hx 2 (by omega));have c3:=(B.cell (p:=⟨b,off+k*8+3,none⟩) hbn).trans (hcells k x hx 3 (by omega));have c4:=(B.cell (p:=⟨b,off+k*8+4,none⟩) hbn).trans (hcells k x hx 4 (by omega));have c5:=(B.cell (p:=⟨b,off+k*8+5,none⟩) hbn).trans (hcells k x hx 5 (by omega));have c6:=(B.cell (p:=⟨b,off+k*8+6,none⟩) hbn).trans (hcells k x hx 6 (by omega));have c7:=(B.cell (p:=⟨b,off+k*8+7,none⟩) hbn).trans (hcells k x hx 7 (by omega));have d0:=(B.cell (p:=⟨b',off'+k*8+0,none⟩) hbn').trans (hcells' k y hy 0 (by omega));have d1:=(B.cell (p:=⟨b',off'+k*8+1,none⟩) hbn').trans (hcells' k y hy 1 (by omega));have d2:=(B.cell (p:=⟨b',off'+k*8+2,none⟩) hbn').trans (hcells' k y hy 2 (by omega));have d3:=(B.cell (p:=⟨b',off'+k*8+3,none⟩) hbn').trans (hcells' k y hy 3 (by omega));have d4:=(B.cell (p:=⟨b',off'+k*8+4,none⟩) hbn').trans (hcells' k y hy 4 (by omega));have d5:=(B.cell (p:=⟨b',off'+k*8+5,none⟩) hbn').trans (hcells' k y hy 5 (by omega));have d6:=(B.cell (p:=⟨b',off'+k*8+6,none⟩) hbn').trans (hcells' k y hy 6 (by omega));have d7:=(B.cell (p:=⟨b',off'+k*8+7,none⟩) hbn').trans (hcells' k y hy 7 (by omega));obtain ⟨⟨pe,ke,e4,_⟩,⟨pi,ki,e5,_⟩,⟨pp,kp,e6,_⟩⟩:=px;obtain ⟨⟨pe',ke',e4',_⟩,⟨pi',ki',e5',_⟩,⟨pp',kp',e6',_⟩⟩:=py;obtain ⟨⟨N,xa,xi,T,es,is,ps⟩,ve,vi,vp,fi⟩:=x;obtain ⟨⟨N',xa',xi',T',es',is',ps'⟩,ve',vi',vp',fi'⟩:=y;dsimp only at e4 e5 e6 e4' e5' e6' hfst;subst e4 e5 e6 e4' e5' e6' hfst;dsimp only [PV.cell] at c0 c1 c2 c3 c4 c5 c6 c7 d0 d1 d2 d3 d4 d5 d6 d7;dsimp only [PV.modV] at HS;rw [Nat.add_zero] at c0 d0;clear hcells hcells' hx hy hat hat' hmod he;generalize es.length=le at *;generalize is.length=li at *;generalize ps.length=lp at *;generalize es'.length=le' at *;generalize is'.length=li' at *;generalize ps'.length=lp' at *;have t0:=cell_regrown c0;have t1:=cell_regrown c1;have t2:=cell_regrown c2;have t3:=cell_regrown c3;have t4:=cell_regrown c4;have t5:=cell_regrown c5;have t6:=cell_regrown c6;have t7:=cell_regrown c7;have s0:=cell_regrown d0;have s1:=cell_regrown d1;have s2:=cell_regrown d2;have s3:=cell_regrown d3;have s4:=cell_regrown d4;have s5:=cell_regrown d5;have s6:=cell_regrown d6;have s7:=cell_regrown d7;clear c0 c1 c2 c3 c4 c5 c6 c7 d0 d1 d2 d3 d4 d5 d6 d7;have hff:(fi != fi)=false:=by simp
   have hbd:l.length≤9223372036854775807:=hmax;have hkl':(k:Int)<(l.length:Int):=by omega
   go_wp2_with fail;refine wp_region_quiet_below (by kernel_rfl) (by kernel_rfl) ?_
   repeat (quiet_step ((go_at_call 27;go_must (exact Calls.regrown_of (HS.out _ _)))))
   refine wpQuiet_nil ?_;intro _ hw';obtain ⟨⟨dq,osq⟩,hw''⟩:=hw';have B5:=B.trans ((below_regrown wr dq osq).mono B.size);rw [← hw''] at B5;clear hw'' t0 t1 t2 t3 t4 t5 t6 t7 s0 s1 s2 s3 s4 s5 s6 s7 HS;have HB5:Hid (Below w.heap.size w _):=B5;clear B5 B;go_wp2_with fail
   go_roundg (l.length-(k+1))
   case measure=>
    have:=HGK.out
    omega
   case rel=>exact ⟨k+1,(rfl:l.length-(k+1)=l.length-(k+1)),by omega,by go_num,HB5⟩
  ·go_wp2
   go_ret;exact ⟨rfl,B⟩
theorem sameReg_yes (K:Ker) (l l':List PV) (v v':Value) (w:World) (h1:Zaw w.heap.size w v K l) (h2:Zaw w.heap.size w v' K l') (he:l.map PV.plc=l'.map PV.plc) :
  Calls Tryz.prog 26 #[v,v'] w fun e w'=>e=.returned (.bool true)∧Below w.heap.size w w':=by
 obtain ⟨ve,vl,rfl,hE,hL⟩:=h1;obtain ⟨ve',vl',rfl,hE',hL'⟩:=h2;have HX:Hid (∀ W,Below w.heap.size w W→Calls Tryz.prog 76 #[ve,ve'] W fun e w''=>e=.returned (.bool true)∧Below W.heap.size W w''):=fun W hb=>by
  refine (sameExports_yes K.exps ve ve' W ((hE.below hb).more hb.size) ((hE'.below hb).more hb.size)).mono ?_;rintro e w' ⟨h,q,rfl⟩;exact ⟨h,below_drewN (Below.refl _ _) q⟩
 have HP:Hid (∀ W,Below w.heap.size w W→Calls Tryz.prog 77 #[vl,vl'] W fun e w''=>e=.returned (.bool true)∧Below W.heap.size W w''):=fun W hb=>samePlaced_yes l l' vl vl' W ((hL.below hb).more hb.size) ((hL'.below hb).more hb.size) he;obtain ⟨a,c,rfl,_,_⟩:=hE;obtain ⟨a',c',rfl,_,_⟩:=hE';obtain ⟨⟨q,r,rfl,_,_⟩,_⟩:=hL;obtain ⟨⟨q',r',rfl,_,_⟩,_⟩:=hL';obtain ⟨ma,mi,ks⟩:=K;dsimp only at *;clear he;generalize ks.length=nk at *;generalize l.length=nl at *;generalize l'.length=nl' at *;have hma:(ma == ma)=true:=by simp
 have hmi:(mi == mi)=true:=by simp
 have HB1:Hid (Below w.heap.size w ((w.alloc (.cells #[.int .i64 ma,.int .i64 mi,.slice a nk c,.slice q nl r] 27)).alloc (.cells #[.int .i64 ma,.int .i64 mi,.slice a' nk c',.slice q' nl' r'] 27))):=((Below.refl _ _).alloc (Nat.le_refl _) _).alloc (by simp) _;have HC1:Hid (Za ((w.alloc (.cells #[.int .i64 ma,.int .i64 mi,.slice a nk c,.slice q nl r] 27)).alloc (.cells #[.int .i64 ma,.int .i64 mi,.slice a' nk c',.slice q' nl' r'] 27)) w.heap.size 27 #[.int .i64 ma,.int .i64 mi,.slice a nk c,.slice q nl r]):=(Za.new _ _ _).kept (World.grownBy_alloc _ _ none) (by simp);have HD1:Hid (Za ((w.alloc (.cells #[.int .i64 ma,.int .i64 mi,.slice a nk c,.slice q nl r] 27)).alloc (.cells #[.int .i64 ma,.int .i64 mi,.slice a' nk c',.slice q' nl' r'] 27)) (w.heap.size+1) 27 #[.int .i64 ma,.int .i64 mi,.slice a' nk c',.slice q' nl' r']):=by
  have:=Za.new (w.alloc (.cells #[.int .i64 ma,.int .i64 mi,.slice a nk c,.slice q nl r] 27)) 27 #[.int .i64 ma,.int .i64 mi,.slice a' nk c',.slice q' nl' r']
  rw [World.size_alloc] at this;exact this
 go_enter Tryz.func26,Tryz.ntmps26
 go_wp2_with fail;refine (HX.out _ HB1.out).mono ?_;generalize ((w.alloc (.cells #[.int .i64 ma,.int .i64 mi,.slice a nk c,.slice q nl r] 27)).alloc (.cells #[.int .i64 ma,.int .i64 mi,.slice a' nk c',.slice q' nl' r'] 27))=w1 at *;rintro e w2 ⟨rfl,b2⟩;have HB2:Hid (Below _ _ _):=HB1.out.trans (b2.mono HB1.out.size);have HC2:Hid (Za _ _ _ _):=HC1.out.below b2 HC1.out.lt;have HD2:Hid (Za _ _ _ _):=HD1.out.below b2 HD1.out.lt;have c3:=Za.cell HC2.out 3;have d3:=Za.cell HD2.out 3;have lc:=Za.lt HC2.out;have ld:=Za.lt HD2.out;simp at c3 d3;clear b2 HB1 HC1 HD1 HX;go_wp2_with fail;refine (HP.out _ HB2.out).mono ?_;rintro e w3 ⟨rfl,b3⟩;have HB3:Hid (Below _ _ _):=HB2.out.trans (b3.mono HB2.out.size);clear b3 HP HB2 HC2 HD2 c3 d3 lc ld;go_wp2;go_ret;exact ⟨rfl,HB3.out⟩
end Go.Proofs.YtlpnfbpgnfappaaGreat
namespace Go.Proofs.YtlpnfbpgnfappaaGreat
open Go.RowKit Go.PlainAid Go.Lib
theorem Zau.isReg {base:Nat} {W:World} {v:Value} {K:Ker} {l:List PV} (h:Zau base W v K l) (hk:K.exps.length≤255) (hl:l.length≤255) (hm:∀ x∈l,x.mod.exps.length≤255∧x.mod.imps.length≤255∧x.mod.pats.length≤255):Zaw W.heap.size W v K l:=by
 obtain ⟨ve,vl,e,o1,o2,o3⟩:=h;exact ⟨ve,vl,e,ZbX (C:=expC) (cells:=Exp.cell) (sz:=2) (fun _=>rfl) expC_at o1 (by omega),ZbX (C:=pvC) (cells:=PV.cell) (sz:=8) (fun _=>rfl) pvC_at o2 (by omega),plc_rows o3 hm⟩
theorem lens_mods {l l':List PV} (h:l'.map (·.mod)=l.map (·.mod)) (hf:∀ x∈l,x.mod.exps.length≤255∧x.mod.imps.length≤255∧x.mod.pats.length≤255):∀ x∈l',x.mod.exps.length≤255∧x.mod.imps.length≤255∧x.mod.pats.length≤255:=fun x hx=>by
 have:x.mod∈l'.map (·.mod):=List.mem_map_of_mem hx
 rw [h] at this;obtain ⟨y,hy,e⟩:=List.mem_map.1 this;rw [← e];exact hf y hy
theorem plc_mods {l l':List PV} {L:List Plc} (h:l'.map PV.plc=L) (hL:L.map (·.mod)=(l.map PV.plc).map (·.mod)):l'.map (·.mod)=l.map (·.mod):=by
 have h1:=congrArg (List.map fun p:Plc=>p.mod) h;rw [hL,List.map_map,List.map_map] at h1;exact h1
theorem stepRes_mods (L:List Plc):(Zbb L).1.map (·.mod)=L.map (·.mod):=by
 unfold Zbb
 cases hs:stepFrom 0 L with
 | none=>rfl
 | some L'=>exact (step_some hs).2.2
theorem pack_mods:∀ (L:List Plc) (e:Int),(packFrom e L).map (·.mod)=L.map (·.mod)
 | [],_=>rfl
 | p::r,e=>by
  show p.mod::_=p.mod::_
  rw [pack_mods r]
theorem stepAns_reg {K:Ker} {l l':List PV} {base:Nat} {W:World} {v:Value} (h1:l'.map PV.plc=(stepAns K (l.map PV.plc)).1.2) (h:Zau base W v (stepAns K (l.map PV.plc)).1.1 l'):Zaw W.heap.size W v (stepAns K (l.map PV.plc)).1.1 l':=by
 by_cases h0:Zaq K (l.map PV.plc)=0
 ·obtain ⟨g1,g2,g3,_⟩:=rg_lens h0
  unfold stepAns at h1 h ⊢;rw [if_pos h0] at h1 h ⊢;have hm:=plc_mods h1 (stepRes_mods _);have hln:=congrArg List.length hm;rw [List.length_map,List.length_map] at hln;exact h.isReg g1 (by omega) (lens_mods hm g3)
 ·unfold stepAns at h1 h ⊢
  rw [if_neg h0] at h1 h ⊢;have hn:l'=[]:=List.map_eq_nil_iff.1 h1;subst hn;exact h.isReg (by simp [emptyK]) (by simp) (fun x hx=>by simp at hx)
theorem packAns_reg {K:Ker} {l l':List PV} {base:Nat} {W:World} {v:Value} (h1:l'.map PV.plc=(packAns K (l.map PV.plc)).1.2) (h:Zau base W v (packAns K (l.map PV.plc)).1.1 l'):Zaw W.heap.size W v (packAns K (l.map PV.plc)).1.1 l':=by
 by_cases h0:Zaq K (l.map PV.plc)=0
 ·obtain ⟨g1,g2,g3,_⟩:=rg_lens h0
  unfold packAns at h1 h ⊢;rw [if_pos h0] at h1 h ⊢;have hm:=plc_mods h1 (pack_mods _ _);have hln:=congrArg List.length hm;rw [List.length_map,List.length_map] at hln;exact h.isReg g1 (by omega) (lens_mods hm g3)
 ·unfold packAns at h1 h ⊢
  rw [if_neg h0] at h1 h ⊢;have hn:l'=[]:=List.map_eq_nil_iff.1 h1;subst hn;exact h.isReg (by simp [emptyK]) (by simp) (fun x hx=>by simp at hx)
theorem Zaw.shape0 {n:Nat} {W:World} {v:Value} {K:Ker} {l:List PV} (h:Zaw n W v K l):∃ q j a c,v=.agg #[.int .i64 K.major,.int .i64 K.minor,.slice q K.exps.length j,.slice a l.length c]:=by
 obtain ⟨ve,vl,rfl,⟨q,j,rfl,_,_⟩,⟨⟨a,c,rfl,_,_⟩,_⟩⟩:=h;exact ⟨q,j,a,c,rfl⟩
theorem zero_isReg (n:Nat) (W:World):Zaw n W (.agg #[.int .i64 0,.int .i64 0,.slice none 0 0,.slice none 0 0]) emptyK []:=
 ⟨_,_,rfl,⟨none,0,rfl,by simp [emptyK],.inl rfl⟩,⟨none,0,rfl,by simp,.inl rfl⟩,fun x hx=>by simp at hx⟩
theorem row2_form {n:Nat} {W:World} {v:Value} {K:Ker} {l:List PV} {f0 f1:Int} (h:Zaw n W v K l) (hf:l.map (·.first)=[f0,f1]):∃ ma mi q lk j b off c,v=.agg #[.int .i64 ma,.int .i64 mi,.slice q lk j,.slice (some ⟨b,off,none⟩) 2 c]∧b<n∧W.cell? ⟨b,off+7,none⟩=some (.int .i64 f0)∧W.cell? ⟨b,off+15,none⟩=some (.int .i64 f1):=by
 obtain ⟨ve,vl,rfl,⟨q,j,rfl,_,_⟩,⟨⟨a,c,rfl,_,hc⟩,_⟩⟩:=h
 match l,hf,hc with
 | [x,y],hf,hc=>
  simp at hf
  rcases hc with h | ⟨b,off,rfl,hb,hc⟩
  ·cases h
  ·have h0:=hc 0 x rfl 7 (by omega)
   have h1:=hc 1 y rfl 7 (by omega);refine ⟨_,_,_,_,_,b,off,c,rfl,hb,?_,?_⟩
   ·rw [← hf.1]
    simpa [PV.cell] using h0
   ·rw [← hf.2]
    have e:off+1*8+7=off+15:=by omega
    rw [e] at h1
    simpa [PV.cell] using h1
theorem regIs_ok (K:Ker) (l l':List PV) (v v':Value) (w:World) (h1:Zaw w.heap.size w v K l) (h2:Zaw w.heap.size w v' K l') (he:l.map PV.plc=l'.map PV.plc) :
  Calls Tryz.prog 14 #[v,.int .i64 0,.int .i64 0,v'] w fun e w'=>e=.returned (.bool true)∧Below w.heap.size w w':=by
 have HS:Hid (∀ W,Below w.heap.size w W→Calls Tryz.prog 26 #[v,v'] W fun e w''=>e=.returned (.bool true)∧Below W.heap.size W w''):=fun W hb=>sameReg_yes K l l' v v' W ((h1.below hb).more hb.size) ((h2.below hb).more hb.size) he;obtain ⟨q,j,a,c,rfl⟩:=h1.shape0;obtain ⟨q',j',a',c',rfl⟩:=h2.shape0;clear h1 h2 he;generalize K.exps.length=lk at *;generalize l.length=ll at *;generalize l'.length=ll' at *;have HB1:Hid (Below w.heap.size w ((w.alloc (.cells #[.int .i64 K.major,.int .i64 K.minor,.slice q lk j,.slice a ll c] 27)).alloc (.cells #[.int .i64 K.major,.int .i64 K.minor,.slice q' lk j',.slice a' ll' c'] 27))):=((Below.refl _ _).alloc (Nat.le_refl _) _).alloc (by simp) _
 go_enter Tryz.func14,Tryz.ntmps14
 go_wp2_with fail;refine (HS.out _ HB1.out).mono ?_;rintro e w2 ⟨rfl,b2⟩;have HB2:Hid (Below _ _ _):=HB1.out.trans (b2.mono HB1.out.size);clear b2 HB1 HS;go_wp2;go_ret;exact ⟨rfl,HB2.out⟩
theorem regIs_err (K:Ker) (l':List PV) (v v':Value) (er:Int) (w:World) (her:er≠0) (h1:Zaw w.heap.size w v emptyK []) (h2:Zaw w.heap.size w v' K l') :
  Calls Tryz.prog 14 #[v,.int .i64 er,.int .i64 er,v'] w fun e w'=>e=.returned (.bool true)∧Below w.heap.size w w':=by
 have HS:Hid (∀ W,Below w.heap.size w W→Calls Tryz.prog 26 #[v,.agg #[.int .i64 0,.int .i64 0,.slice none 0 0,.slice none 0 0]] W fun e w''=>e=.returned (.bool true)∧Below W.heap.size W w''):=fun W hb=>sameReg_yes emptyK [] [] v _ W ((h1.below hb).more hb.size) (zero_isReg _ _) rfl;obtain ⟨q,j,a,c,rfl⟩:=h1.shape0;obtain ⟨q',j',a',c',rfl⟩:=h2.shape0;clear h1 h2;generalize K.exps.length=lk at *;generalize l'.length=ll' at *;dsimp only [emptyK,List.length_nil] at HS ⊢;have hne:(er != 0)=true:=by simpa using her
 have hbeq:(er == er)=true:=by simp
 have HB1:Hid (Below w.heap.size w ((w.alloc (.cells #[.int .i64 0,.int .i64 0,.slice q 0 j,.slice a 0 c] 27)).alloc (.cells #[.int .i64 K.major,.int .i64 K.minor,.slice q' lk j',.slice a' ll' c'] 27))):=((Below.refl _ _).alloc (Nat.le_refl _) _).alloc (by simp) _;have HA1:Hid (Za ((w.alloc (.cells #[.int .i64 0,.int .i64 0,.slice q 0 j,.slice a 0 c] 27)).alloc (.cells #[.int .i64 K.major,.int .i64 K.minor,.slice q' lk j',.slice a' ll' c'] 27)) w.heap.size 27 #[.int .i64 0,.int .i64 0,.slice q 0 j,.slice a 0 c]):=(Za.new _ _ _).kept (World.grownBy_alloc _ _ none) (by simp);have HC1:Hid (Za ((w.alloc (.cells #[.int .i64 0,.int .i64 0,.slice q 0 j,.slice a 0 c] 27)).alloc (.cells #[.int .i64 K.major,.int .i64 K.minor,.slice q' lk j',.slice a' ll' c'] 27)) (w.heap.size+1) 27 #[.int .i64 K.major,.int .i64 K.minor,.slice q' lk j',.slice a' ll' c']):=by
  have:=Za.new (w.alloc (.cells #[.int .i64 0,.int .i64 0,.slice q 0 j,.slice a 0 c] 27)) 27 #[.int .i64 K.major,.int .i64 K.minor,.slice q' lk j',.slice a' ll' c']
  rw [World.size_alloc] at this;exact this
 go_enter Tryz.func14,Tryz.ntmps14
 go_upto_region 2 with fail;generalize ((w.alloc (.cells #[.int .i64 0,.int .i64 0,.slice q 0 j,.slice a 0 c] 27)).alloc (.cells #[.int .i64 K.major,.int .i64 K.minor,.slice q' lk j',.slice a' ll' c'] 27))=w1 at *;obtain ⟨z0,z1,z2,z3⟩:=ZaC HC1.out;have f0:=Za.frozen HC1.out 0;have f1:=Za.frozen HC1.out 1;have f2:=Za.frozen HC1.out 2;have f3:=Za.frozen HC1.out 3;have zl:=Za.lt HC1.out;have hG:=Zat w1 (w.heap.size+1) (.int .i64 0) (.int .i64 0) (.slice none 0 0) (.slice none 0 0);have HB9:Hid (Below _ _ _):=HB1.out.grown hG HB1.out.size (fun q hq=>by obtain rfl:=Option.some.inj hq;omega);have HZ9:Hid (Za ((((w1.setCell ⟨w.heap.size+1,0,none⟩ (.int .i64 0)).setCell ⟨w.heap.size+1,1,none⟩ (.int .i64 0)).setCell ⟨w.heap.size+1,2,none⟩ (.slice none 0 0)).setCell ⟨w.heap.size+1,3,none⟩ (.slice none 0 0)) (w.heap.size+1) 27 #[.int .i64 0,.int .i64 0,.slice none 0 0,.slice none 0 0]):=sets4 HC1.out _ _ _ _;have HA9:Hid (Za _ _ _ _):=HA1.out.kept hG (by intro e;have:=Option.some.inj e;omega);clear HB1 HC1 HA1 hG;go_upto_region 3 with fail;generalize ((((w1.setCell ⟨w.heap.size+1,0,none⟩ (.int .i64 0)).setCell ⟨w.heap.size+1,1,none⟩ (.int .i64 0)).setCell ⟨w.heap.size+1,2,none⟩ (.slice none 0 0)).setCell ⟨w.heap.size+1,3,none⟩ (.slice none 0 0))=w4 at *;clear z0 z1 z2 z3 f0 f1 f2 f3 zl;have z0:=Za.cell HZ9.out 0;have z1:=Za.cell HZ9.out 1;have z2:=Za.cell HZ9.out 2;have z3:=Za.cell HZ9.out 3;have zl:=Za.lt HZ9.out;have a0:=Za.cell HA9.out 0;have a1:=Za.cell HA9.out 1;have a2:=Za.cell HA9.out 2;have a3:=Za.cell HA9.out 3;have al:=Za.lt HA9.out;simp at z0 z1 z2 z3 a0 a1 a2 a3;go_wp2_with fail;refine (HS.out _ HB9.out).mono ?_;rintro e w5 ⟨rfl,b5⟩;have HB5:Hid (Below _ _ _):=HB9.out.trans (b5.mono HB9.out.size);clear b5 HB9 HS HZ9 HA9 z0 z1 z2 z3 zl a0 a1 a2 a3 al;go_wp2;go_ret;exact ⟨rfl,HB5.out⟩
theorem later {a b c:World} (h:Below a.heap.size a b) (k:Below b.heap.size b c):Below a.heap.size a c:=h.trans (k.mono h.size)
theorem SpReg.head {B:Nat} {W:World} {u0 u1 v0 v1 ve vl:Value} (h:SpReg B W (.agg #[u0,u1,ve,vl])):SpReg B W (.agg #[v0,v1,ve,vl]):=by
 obtain ⟨k0,k1,ve',vl',le,n,e,h1,h2⟩:=h;injection e with e;injection e with e;simp only [List.cons.injEq,and_true] at e;obtain ⟨_,_,rfl,rfl⟩:=e;exact ⟨_,_,_,_,_,_,rfl,h1,h2⟩
def SpRegs (B:Nat) (W:World) (g n:Nat):Prop:=∀ j,j<n→∃ k0 k1 a2 n2 c2 a3 n3 c3,W.cell? ⟨g,j*4,none⟩=some k0∧W.cell? ⟨g,j*4+1,none⟩=some k1∧W.cell? ⟨g,j*4+2,none⟩=some (.slice a2 n2 c2)∧W.cell? ⟨g,j*4+3,none⟩=some (.slice a3 n3 c3)∧SpReg B W (.agg #[k0,k1,.slice a2 n2 c2,.slice a3 n3 c3])
theorem SpRegs.kept {B B':Nat} {W W':World} {g n:Nat} (h:SpRegs B W g n) (hs:Spl B' W W'):SpRegs B W' g n:=fun j hj=>by
 obtain ⟨k0,k1,a2,n2,c2,a3,n3,c3,h0,h1,h2,h3,hr⟩:=h j hj;obtain ⟨⟨u0,e0,_⟩,_⟩:=hs.cell _ _ h0;obtain ⟨⟨u1,e1,_⟩,_⟩:=hs.cell _ _ h1;exact ⟨u0,u1,a2,n2,c2,a3,n3,c3,e0,e1,hs.slice h2,hs.slice h3,(hr.kept hs).head⟩
def SpModAt (B:Nat) (W:World) (g:Nat):Prop:=∃ u0 u1 u2 u3 a4 n4 c4 a5 n5 c5 a6 n6 c6,W.cell? ⟨g,0,none⟩=some u0∧W.cell? ⟨g,1,none⟩=some u1∧W.cell? ⟨g,2,none⟩=some u2∧W.cell? ⟨g,3,none⟩=some u3∧W.cell? ⟨g,4,none⟩=some (.slice a4 n4 c4)∧W.cell? ⟨g,5,none⟩=some (.slice a5 n5 c5)∧W.cell? ⟨g,6,none⟩=some (.slice a6 n6 c6)∧SpMod B W (.agg #[u0,u1,u2,u3,.slice a4 n4 c4,.slice a5 n5 c5,.slice a6 n6 c6])
theorem SpModAt.kept {B B':Nat} {W W':World} {g:Nat} (h:SpModAt B W g) (hs:Spl B' W W'):SpModAt B W' g:=by
 obtain ⟨u0,u1,u2,u3,a4,n4,c4,a5,n5,c5,a6,n6,c6,h0,h1,h2,h3,h4,h5,h6,hm⟩:=h;obtain ⟨⟨w0,e0,_⟩,_⟩:=hs.cell _ _ h0;obtain ⟨⟨w1,e1,_⟩,_⟩:=hs.cell _ _ h1;obtain ⟨⟨w2,e2,_⟩,_⟩:=hs.cell _ _ h2;obtain ⟨⟨w3,e3,_⟩,_⟩:=hs.cell _ _ h3;exact ⟨w0,w1,w2,w3,a4,n4,c4,a5,n5,c5,a6,n6,c6,e0,e1,e2,e3,hs.slice h4,hs.slice h5,hs.slice h6,(hm.kept hs).head⟩
theorem Zau.shape {base:Nat} {W:World} {v:Value} {K:Ker} {l:List PV} (h:Zau base W v K l):∃ q j a c,v=.agg #[.int .i64 K.major,.int .i64 K.minor,.slice q K.exps.length j,.slice a l.length c]:=by
 obtain ⟨ve,vl,rfl,h1,h2,_⟩:=h;obtain ⟨q,j,rfl⟩:=Zae h1;obtain ⟨a,c,rfl⟩:=Zae h2;exact ⟨_,_,_,_,rfl⟩
theorem Zbr.spMod {base B:Nat} {W:World} {v:Value} {M:Mod} (h:Zbr base W v M) (hB:B≤base):∃ N a b T q j p i o k,v=.agg #[.string N,.int .i64 a,.int .i64 b,.string T,.slice q M.exps.length j,.slice p M.imps.length i,.slice o M.pats.length k]∧SpMod B W v:=by
 obtain ⟨ve,vi,vp,rfl,⟨h1,h2,h3⟩,_⟩:=h;obtain ⟨q,j,rfl⟩:=Zae h1;obtain ⟨p,i,rfl⟩:=Zae h2;obtain ⟨o,k,rfl⟩:=Zae h3;exact ⟨_,_,_,_,_,_,_,_,_,_,rfl,_,_,_,_,_,_,_,_,_,_,rfl,spExp h1 hB,spImp h2 hB,spPat h3 hB⟩
theorem own_rowOf {α:Type} {C:α→List Value} {cells:α→Nat→Value} {sz:Nat} (hC:∀ x,(C x).length=sz) (hc:∀ x i,i<sz→(C x)[i]?=some (cells x i)) {W:World} {base:Nat} {e:TypeId} {v:Value} {l:List α} (h:W.ownsRow base e sz v l.length (l.flatMap C)):Zal sz cells W.heap.size W v l:=by
 refine ZbX (C:=C) (cells:=cells) (sz:=sz) hC hc h ?_
 rcases h.2 with ⟨_,hn⟩ | ⟨g,cap,cur,_,_,_,h1,h3,_⟩
 ·omega
 ·exact Nat.le_trans h1 (Nat.le_trans h3 (by decide))
theorem Zak.plcAny {base:Nat} {W:World} {y:PV} (h:Zak base W y):ZbH W.heap.size W y:=⟨own_rowOf (C:=expC) (cells:=Exp.cell) (sz:=2) (fun _=>rfl) expC_at h.1,own_rowOf (C:=impC) (cells:=Imp.cell) (sz:=4) (fun _=>rfl) impC_at h.2.1,own_rowOf (C:=patC) (cells:=Pat.cell) (sz:=4) (fun _=>rfl) patC_at h.2.2⟩
theorem Zau.isAny {base:Nat} {W:World} {v:Value} {K:Ker} {l:List PV} (h:Zau base W v K l):Zaw W.heap.size W v K l:=by
 obtain ⟨ve,vl,rfl,h1,h2,h3⟩:=h;exact ⟨ve,vl,rfl,own_rowOf (C:=expC) (cells:=Exp.cell) (sz:=2) (fun _=>rfl) expC_at h1,own_rowOf (C:=pvC) (cells:=PV.cell) (sz:=8) (fun _=>rfl) pvC_at h2,fun x hx=>(h3 x hx).plcAny⟩
theorem cells_ne {W:World} {B B':Nat} {t t':TypeId} {cs cs':Array Value} (h:Za W B t cs) (h':Za W B' t' cs') (ht:t≠t'):some B'≠some B:=fun e=>by
 obtain rfl:=Option.some.inj e
 have:=h.symm.trans h'
 injection this with this;injection this with _ h2 _;exact ht h2
theorem Zcu {l l':List PV} (h:l'.map PV.plc=l.map PV.plc) (hf:∀ x∈l,x.mod.fits):∀ x∈l',x.mod.fits:=fun x hx=>by
 have h1:x.plc∈l.map PV.plc:=by rw [← h];exact List.mem_map_of_mem hx
 obtain ⟨y,hy,e⟩:=List.mem_map.1 h1
 have:=hf y hy
 unfold PV.plc at e;injection e with e _
 rwa [← e]
theorem encR_size (M:Mod):(encR M).size≤140737488351232:=by
 unfold encR
 split
 ·rename_i h0
  have h:=small_of_chk h0
  show (toBa (encL M)).size≤_
  rw [toBa_size];have h1:=Zbj expB 1003 M.exps (fun x hx=>by rw [expB_length];have:=h.exps x hx;omega);have h2:=Zbj impB 2004 M.imps (fun x hx=>by rw [impB_length];have:=h.imps x hx;omega);have h3:=Zbj patB 6 M.pats (fun x _=>by rw [patB_length];omega);have n1:=h.name;have n2:=h.text;have n3:=h.nexps;have n4:=h.nimps;have n5:=h.npats;have hl:M.text.data.toList.length=M.text.size:=by simp
  rw [encL_form];simp only [List.length_append,ZaI,Zah,List.length_cons,List.length_nil,hl]
  omega
 ·exact Nat.zero_le _
theorem grown_refl (W:World) (b:Option Nat):W.grownBy W b:=⟨rfl,rfl,rfl,Nat.le_refl _,fun _ _ _=>rfl⟩
theorem grown_drew (W:World) (b:Option Nat):W.grownBy W.drew b:=⟨rfl,rfl,rfl,Nat.le_refl _,fun _ _ _=>rfl⟩
theorem grown_up {W W':World} {b:Option Nat} (h:W.grownBy W' none):W.grownBy W' b:=⟨h.os,h.tape,h.output,h.size,fun k hk _=>h.block k hk (by simp)⟩
theorem own_beyond {base g n cap sz:Nat} {e:TypeId} {xs:List Value}:∀ (vs:List Value) (o:Nat) (W:World),W.ownsRow base e sz (.slice (some ⟨g,0,none⟩) n cap) n xs→n*sz≤o→
  (W.setCells g o vs).ownsRow base e sz (.slice (some ⟨g,0,none⟩) n cap) n xs∧W.grownBy (W.setCells g o vs) (some g)
 | [],_,W,h,_=>⟨h,grown_refl W _⟩
 | v::r,o,W,h,ho=>by
  obtain ⟨h1,g1⟩:=h.stored o v;rw [List.set_eq_of_length_le (by rw [h.1];exact ho)] at h1;obtain ⟨h2,g2⟩:=own_beyond r (o+1) _ h1 (by omega);exact ⟨h2,g1.trans g2⟩
def layL:List Value→Nat→List Value→List Value
 | xs,_,[]=>xs
 | xs,o,v::r=>layL (xs.set o v) (o+1) r
theorem layL_eq:∀ (vs:List Value) (xs:List Value) (o:Nat),o+vs.length≤xs.length→layL xs o vs=xs.take o++vs++xs.drop (o+vs.length)
 | [],xs,o,_=>by
  show xs=_
  simp
 | v::r,xs,o,h=>by
  rw [List.length_cons] at h
  show layL (xs.set o v) (o+1) r=_
  rw [layL_eq r (xs.set o v) (o+1) (by rw [List.length_set];omega)];have h1:(xs.set o v).take (o+1)=xs.take o++[v]:=by
   rw [List.take_add_one,List.take_set_of_le (Nat.le_refl _),List.getElem?_set_self (by omega)]
   rfl
  have h2:(xs.set o v).drop (o+1+r.length)=xs.drop (o+(v::r).length):=by
   rw [List.drop_set_of_lt (by omega),List.length_cons]
   congr 1;omega
  rw [h1,h2]
  simp
theorem own_lay {base g n cap sz:Nat} {e:TypeId}:∀ (vs:List Value) (xs:List Value) (o:Nat) (W:World),W.ownsRow base e sz (.slice (some ⟨g,0,none⟩) n cap) n xs→
  (W.setCells g o vs).ownsRow base e sz (.slice (some ⟨g,0,none⟩) n cap) n (layL xs o vs)∧W.grownBy (W.setCells g o vs) (some g)
 | [],_,_,W,h=>⟨h,grown_refl W _⟩
 | v::r,xs,o,W,h=>by
  obtain ⟨h1,g1⟩:=h.stored o v;obtain ⟨h2,g2⟩:=own_lay r (xs.set o v) (o+1) _ h1;exact ⟨h2,g1.trans g2⟩
theorem own_block_of {W:World} {base g n cap sz:Nat} {e:TypeId} {xs:List Value} (h:W.ownsRow base e sz (.slice (some ⟨g,0,none⟩) n cap) n xs) :
  ∃ cur,base≤g∧W.heap[g]?=some (.cells cur e (0,0))∧n≤cap∧cap≤maxLen∧cur.size=cap*sz∧cur.toList.take (n*sz)=xs:=by
 rcases h.2 with ⟨h',_⟩ | ⟨g',cap',cur,h',h1,h2,h3,h4,h5,h6⟩
 ·simp at h'
 ·simp only [Value.slice.injEq,Option.some.injEq,Addr.mk.injEq,and_true,true_and] at h'
  obtain ⟨rfl,rfl⟩:=h';exact ⟨cur,h1,h2,h3,h4,h5,h6⟩
theorem own_cut {W:World} {base g n cap sz i:Nat} {e:TypeId} {xs:List Value} (h:W.ownsRow base e sz (.slice (some ⟨g,0,none⟩) n cap) n xs) (hi:i≤n) :
  W.ownsRow base e sz (.slice (some ⟨g,0,none⟩) i cap) i (xs.take (i*sz)):=by
 obtain ⟨cur,h1,h2,h3,h4,h5,h6⟩:=own_block_of h;have hm:i*sz≤n*sz:=Nat.mul_le_mul_right _ hi;refine ⟨by rw [List.length_take,h.1];omega,.inr ⟨g,cap,cur,rfl,h1,h2,Nat.le_trans hi h3,h4,h5,?_⟩⟩;rw [← h6,List.take_take,Nat.min_eq_left hm]
theorem own_widen {W:World} {base g n cap sz:Nat} {e:TypeId} {xs:List Value} (h:W.ownsRow base e sz (.slice (some ⟨g,0,none⟩) n cap) n xs) (hi:n+1≤cap) :
  ∃ sp:List Value,sp.length=sz∧W.ownsRow base e sz (.slice (some ⟨g,0,none⟩) (n+1) cap) (n+1) (xs++sp):=by
 obtain ⟨cur,h1,h2,h3,h4,h5,h6⟩:=own_block_of h;have hm:(n+1)*sz≤cap*sz:=Nat.mul_le_mul_right _ hi;have hs:(n+1)*sz=n*sz+sz:=Nat.succ_mul n sz;have hl:((cur.toList.drop (n*sz)).take sz).length=sz:=by rw [List.length_take,List.length_drop,Array.length_toList,h5];omega
 refine ⟨(cur.toList.drop (n*sz)).take sz,hl,by rw [List.length_append,h.1,hl,hs],.inr ⟨g,cap,cur,rfl,h1,h2,hi,h4,h5,?_⟩⟩;rw [← h6,hs,List.take_add]
theorem Zcr {W:World} {base g n cap sz:Nat} {e:TypeId} {xs:List Value} (h:W.ownsRow base e sz (.slice (some ⟨g,0,none⟩) n cap) n xs) (j:Nat) (hj:j<cap*sz):(W.cell? ⟨g,j,none⟩).isSome=true∧W.frozen? ⟨g,j,none⟩=false:=by
 obtain ⟨cur,h1,h2,h3,h4,h5,h6⟩:=own_block_of h;refine ⟨?_,h.frozenAt j⟩;rw [cell_of_row W g j cur e (0,0) h2];rw [Array.getElem?_eq_getElem (by omega)]
 rfl
theorem own_capB {W:World} {base g n cap sz:Nat} {e:TypeId} {xs:List Value} (h:W.ownsRow base e sz (.slice (some ⟨g,0,none⟩) n cap) n xs):n≤cap∧cap≤9223372036854775807:=by
 obtain ⟨cur,h1,h2,h3,h4,h5,h6⟩:=own_block_of h;exact ⟨h3,h4⟩
theorem own_cellAt {W:World} {base g n cap sz:Nat} {e:TypeId} {xs:List Value} (h:W.ownsRow base e sz (.slice (some ⟨g,0,none⟩) n cap) n xs) {j:Nat} {u:Value} (hu:xs[j]?=some u):W.cell? ⟨g,j,none⟩=some u:=by
 rw [h.cellAt j (by rw [← h.1];exact (List.getElem?_eq_some_iff.1 hu).1)];exact hu
theorem own_shape {W:World} {base g n cap sz:Nat} {e:TypeId} {xs:List Value} (h:W.ownsRow base e sz (.slice (some ⟨g,0,none⟩) n cap) n xs):W.shape? g=some (e,cap*sz):=by
 obtain ⟨cur,h1,h2,h3,h4,h5,h6⟩:=own_block_of h;unfold World.shape?;rw [h2];simp [h5]
theorem cells_shape {W:World} {B:Nat} {t:TypeId} {cs:Array Value} (h:Za W B t cs):W.shape? B=some (t,cs.size):=by
 unfold World.shape?;rw [show W.heap[B]?=_ from h]
theorem flat_take {α:Type} {C:α→List Value} {sz:Nat} (hC:∀ x,(C x).length=sz):∀ (l:List α) (i:Nat),(l.flatMap C).take (i*sz)=(l.take i).flatMap C
 | [],i=>by simp
 | x::l,0=>by simp
 | x::l,i+1=>by
  have hx:=hC x;rw [List.flatMap_cons,List.take_succ_cons,List.flatMap_cons,← flat_take hC l i,Nat.succ_mul,List.take_append,List.take_of_length_le (by omega),show i*sz+sz-(C x).length=i*sz by omega]
theorem flat_drop {α:Type} {C:α→List Value} {sz:Nat} (hC:∀ x,(C x).length=sz):∀ (l:List α) (i:Nat),(l.flatMap C).drop (i*sz)=(l.drop i).flatMap C
 | [],i=>by simp
 | x::l,0=>by simp
 | x::l,i+1=>by
  have hx:=hC x;rw [List.flatMap_cons,List.drop_succ_cons,← flat_drop hC l i,Nat.succ_mul,List.drop_append,List.drop_of_length_le (by omega),show i*sz+sz-(C x).length=i*sz by omega,List.nil_append]
theorem run_copy_rows {P:Program} (w:World) (dT sT ty elem:TypeId) (i:TypeInfo) (sz:Nat) (b o dLen dCap:Nat) (a:Addr) (sLen sCap:Nat) (cs:List Value)
  (hu:P.underlying dT=some (.slice elem)) (hi:P.info? elem=some i) (hs:i.size=sz) (hn:cs.length=Nat.min sLen dLen*sz)
  (hsrc:∀ j v,cs[j]?=some v→w.cell? (a.add j)=some v) (hc:∀ j,j<cs.length→(w.cell? ⟨b,o+j,none⟩).isSome=true) (hf:∀ j,j<cs.length→w.frozen? ⟨b,o+j,none⟩=false) (h1:∀ v∈cs,v.oneCell'=true) :
  (Builtin.copy_ #[dT,sT] ty #[.slice (some ⟨b,o,none⟩) dLen dCap,.slice (some a) sLen sCap]).run P w=.ok (goInt (Nat.min sLen dLen)) (w.setCells b o cs):=by
 subst hs;have hl:=run_firstCells_some (P:=P) w i.size (Nat.min sLen dLen) a sLen sCap cs hn hsrc;have hst:=run_storeCells_cells (P:=P) b o cs 0 w (by simpa using hc) (by simpa using hf) h1;simp only [Nat.add_zero] at hst;simp [Builtin.copy_,run_underlying hu,Builtin.lenOf,sizeOf,typeInfo,hi,hl,hst]
theorem run_clear_one {P:Program} (w:World) (t e ty:TypeId) (z:Value) (zs:List Value) (ht:P.underlying t=some (.slice e)) (hv:∀ w,(zeroValue e).run P w=.ok z w) (hz:(Builtin.zeroCells z.cells 1).toList=zs) (h1:∀ v∈zs,v.oneCell'=true) (b o c:Nat)
  (hc:∀ j,j<zs.length→(w.cell? ⟨b,o+j,none⟩).isSome=true) (hf:∀ j,j<zs.length→w.frozen? ⟨b,o+j,none⟩=false) :
  (Builtin.clear_ #[t] ty #[.slice (some ⟨b,o,none⟩) 1 c]).run P w=.ok (.tuple #[]) (w.setCells b o zs):=by
 have hst:=run_storeCells_cells (P:=P) b o zs 0 w (by simpa using hc) (by simpa using hf) h1;simp only [Nat.add_zero] at hst;simp [Builtin.clear_,run_underlying ht,hv,hz,hst]
theorem step_copy_run2 {P:Program} {ops:Array Oper} {o:Oper} {a:Act} {w:World} {K:Act→World→Prop} {Q:Exit→Act→World→Prop} {E:Prop}
  (hg:o.guard=none) (d x:Operand) (dT sT:TypeId) (hop:o.op=Op.call { callee:=Callee.builtin Builtin.copy,args:=#[d,x],argTypes:=#[dT,sT] })
  (v u:Value) (hd:a.eval d=v) (hx:a.eval x=u) {v':Value} {w':World} (hr:(Builtin.copy_ #[dT,sT] o.type #[v,u]).run P w=.ok v' w') (hK:K (a.put o.dst v') w') :
  if Region.wanted o (yielded ops a.tmps)=true then Oper.wp P o a w K Q else E:=by
 have hw:Region.wanted o (yielded ops a.tmps)=true:=by simp [Region.wanted,hg]
 rw [if_pos hw];unfold Oper.wp;simp [execOp,hop,resolve,invoke,builtin,hd,hx,hr,Result.andThen];exact hK
def zeros8:List Value:=[.string ⟨#[]⟩,.int .i64 0,.int .i64 0,.string ⟨#[]⟩,.slice none 0 0,.slice none 0 0,.slice none 0 0,.int .i64 0]
theorem zero_placed (w:World):(zeroValue 57).run Tryz.prog w=.ok (.agg #[.string ⟨#[]⟩,.int .i64 0,.int .i64 0,.string ⟨#[]⟩,.slice none 0 0,.slice none 0 0,.slice none 0 0,.int .i64 0]) w:=by
 obtain ⟨i0,hi0,hz0,_,_⟩:=infoPlc_parts;simp [zeroValue,typeInfo,hi0,hz0]
theorem zeros8_cells:(Builtin.zeroCells (Value.agg #[.string ⟨#[]⟩,.int .i64 0,.int .i64 0,.string ⟨#[]⟩,.slice none 0 0,.slice none 0 0,.slice none 0 0,.int .i64 0]).cells 1).toList=zeros8:=by kernel_rfl
theorem zeros8_one:∀ v∈zeros8,v.oneCell'=true:=by
 intro v hv;simp only [zeros8,List.mem_cons,List.not_mem_nil,or_false] at hv
 rcases hv with rfl | rfl | rfl | rfl | rfl | rfl | rfl | rfl <;> rfl
theorem delPlc_any (g n cap i base:Nat) (l:List PV) (w:World) (hown:w.ownsRow base 57 8 (.slice (some ⟨g,0,none⟩) n cap) n (l.flatMap pvC)) (hn:l.length=n) (hi:i<n) (hone:∀ u∈l.flatMap pvC,u.oneCell'=true) (h255:n≤255) :
  Calls Tryz.prog 100 #[.slice (some ⟨g,0,none⟩) n cap,.int .i64 i,.int .i64 ((i:Int)+1)] w fun e w'=>e=.returned (.slice (some ⟨g,0,none⟩) (n-1) cap)∧w'.ownsRow base 57 8 (.slice (some ⟨g,0,none⟩) (n-1) cap) (n-1) ((l.eraseIdx i).flatMap pvC)∧w.grownBy w' (some g):=by
 obtain ⟨i0,hi0,hz0,hz1,hz2⟩:=infoPlc_parts;have hcap:=own_capB hown;obtain ⟨m,hm⟩:∃ m,n=i+(m+1):=⟨n-i-1,by omega⟩;have hfl:(l.flatMap pvC).length=n*8:=by rw [Zca (C:=pvC) (sz:=8) (fun _=>rfl),hn]
 have htake:(l.flatMap pvC).take (i*8)=(l.take i).flatMap pvC:=by rw [← flat_take (C:=pvC) (sz:=8) (fun _=>rfl)]
 have hdrop:(l.flatMap pvC).drop ((i+1)*8)=(l.drop (i+1)).flatMap pvC:=by rw [← flat_drop (C:=pvC) (sz:=8) (fun _=>rfl)]
 obtain ⟨A,hA,hsrc⟩:∃ A:Addr,(if cap=i+1 then some (⟨g,0,none⟩:Addr) else some ⟨g,(i+1)*8,none⟩)=some A∧Hid (∀ t u,((l.drop (i+1)).flatMap pvC)[t]?=some u→w.drew.cell? (A.add t)=some u):=by
  by_cases h:cap=i+1
  ·refine ⟨⟨g,0,none⟩,by simp [h],fun t u hu=>?_⟩
   have h0:l.drop (i+1)=[]:=List.drop_eq_nil_iff.2 (by omega);rw [h0] at hu;simp at hu
  ·refine ⟨⟨g,(i+1)*8,none⟩,by simp [h],fun t u hu=>?_⟩
   rw [add_none];refine own_cellAt hown ?_;rw [← hdrop,List.getElem?_drop] at hu;exact hu
 have hlen:((l.drop (i+1)).flatMap pvC).length=m*8:=by rw [Zca (C:=pvC) (sz:=8) (fun _=>rfl),List.length_drop,hn];congr 1;omega
 have hoc:Hid (∀ u∈(l.drop (i+1)).flatMap pvC,u.oneCell'=true):=fun u hu=>by
  rw [← hdrop] at hu;exact hone u (List.mem_of_mem_drop hu)
 obtain ⟨news,hnews⟩:∃ news,(l.drop (i+1)).flatMap pvC=news:=⟨_,rfl⟩;rw [hnews] at hlen hoc hsrc;have hsp:Hid (∀ t,t<news.length→(w.drew.cell? ⟨g,0+i*8+t,none⟩).isSome=true∧w.drew.frozen? ⟨g,0+i*8+t,none⟩=false):=by
  intro t ht;rw [hlen] at ht;rw [Nat.zero_add];exact Zcr hown _ (by omega)
 obtain ⟨W1,hW1⟩:∃ W1,W1=w.drew.setCells g (0+i*8) news:=⟨_,rfl⟩;have hlay:=own_lay news (l.flatMap pvC) (i*8) w.drew hown.drew;rw [layL_eq _ _ _ (by rw [hlen,hfl];omega),htake] at hlay;rw [Nat.zero_add] at hW1;rw [← hW1] at hlay;have ho1:W1.ownsRow base 57 8 (.slice (some ⟨g,0,none⟩) (n-1) cap) (n-1) ((l.eraseIdx i).flatMap pvC):=by
  have:=own_cut (i:=n-1) hlay.1 (by omega)
  rw [List.append_assoc,← List.append_assoc,List.take_append_of_le_length (by rw [List.length_append,hlen,Zca (C:=pvC) (sz:=8) (fun _=>rfl),List.length_take,hn];omega),List.take_of_length_le (by rw [List.length_append,hlen,Zca (C:=pvC) (sz:=8) (fun _=>rfl),List.length_take,hn];omega),← hnews,← List.flatMap_append,← List.eraseIdx_eq_take_drop_succ] at this;exact this
 have hg1:=hlay.2;have hcl:∀ ty c,(Builtin.clear_ #[25] ty #[.slice (some ⟨g,(n-1)*8,none⟩) 1 c]).run Tryz.prog W1=.ok (.tuple #[]) (W1.setCells g ((n-1)*8) zeros8):=fun ty c=>
  run_clear_one W1 _ _ ty _ zeros8 Tryz.underlying25 zero_placed zeros8_cells zeros8_one g ((n-1)*8) c (fun j hj=>(Zcr ho1 _ (by have:zeros8.length=8:=rfl;omega)).1) (fun j hj=>(Zcr ho1 _ (by have:zeros8.length=8:=rfl;omega)).2)
 have hb2:=own_beyond zeros8 ((n-1)*8) W1 ho1 (Nat.le_refl _);have HO2:Hid _:=hb2.1;have HG2:Hid (w.drew.grownBy (W1.setCells g ((n-1)*8) zeros8) (some g)):=hg1.trans hb2.2;have HW:Hid (W1=w.drew.setCells g (0+i*8) news):=by rw [Nat.zero_add];exact hW1
 have s1:Hid (news.length=m*8):=hlen;have hle:Hid (i+m≤cap):=by show _≤_;omega
 clear hb2 hg1 ho1 hlay hW1 hlen hown hone hfl htake hdrop hnews;subst hm;have e1:i+(m+1)-1=i+m:=by omega
 rw [e1] at hcl HO2 HG2 ⊢;clear e1;have hij:¬ ((i:Int)=(i:Int)+1):=by omega
 have hw1:IntKind.i64.wrap ((i:Int)+1)=(i:Int)+1:=by rw [IntKind.wrap_i64];omega
 have hne:¬ (cap=i+m):=by omega
 have hic:i≤cap:=by omega
 have hk1:(1:Int)≤(m:Int)+1:=by omega
 have hmm:i+(m+1)-(i+1)=m:=by omega
 have mixed:Tryz.prog.follows Departure.mixedOrders=true:=by kernel_rfl
 have hjc:i+1≤cap:=by omega
 have hjn:((i:Int)+1).toNat=i+1:=by omega
 have hj0:(0:Int)≤(i:Int)+1:=by omega
 have h1e:i+(m+1)-(i+m)=1:=by omega
 go_enter Tryz.func100,Tryz.ntmps100
 go_wp2_with fail
 go_region_law_o (refine step_append_room rfl _ _ 25 rfl 57 i0 8 Tryz.underlying25 hi0 hz1 g 0 i cap (by simp [Act.eval,Act.put]) A m (cap-(i+1)) news (by simp [Act.eval,Act.put]) s1.out hsrc.out hoc.out hle.out hsp.out ?_;rw [← HW.out])
 go_wp2;go_ret;exact ⟨rfl,HO2.out,(grown_drew w _).trans HG2.out⟩
end Go.Proofs.YtlpnfbpgnfappaaGreat
namespace Go.Proofs.YtlpnfbpgnfappaaGreat
open Go.RowKit Go.PlainAid
def bump (l:List (Int × Int)):List (Int × Int):=l.dropLast++(match l.getLast? with | none=>[] | some r=>[(r.1,r.2+1)])
def ZbA (u:Nat→Bool) (i:Nat) (acc:List (Int × Int)):List (Int × Int):=
 if u i=true then acc else if 0<i∧u (i-1)=false then bump acc else acc++[((i:Int),1)]
def scan (u:Nat→Bool):Nat→List (Int × Int)
 | 0=>[]
 | i+1=>ZbA u i (scan u i)
theorem bump_snoc (l:List (Int × Int)) (a b:Int):bump (l++[(a,b)])=l++[(a,b+1)]:=by
 unfold bump
 simp
theorem scan_used {u:Nat→Bool} {a:Nat}:∀ {n:Nat},(∀ j,a≤j→j<a+n→u j=true)→scan u (a+n)=scan u a
 | 0,_=>rfl
 | n+1,h=>by
  show ZbA u (a+n) (scan u (a+n))=_
  unfold ZbA;rw [if_pos (h _ (by omega) (by omega)),scan_used (fun j h1 h2=>h j h1 (by omega))]
theorem scan_free {u:Nat→Bool} {a:Nat} (h0:a=0∨u (a-1)=true):∀ {n:Nat},(∀ j,a≤j→j<a+(n+1)→u j=false)→scan u (a+(n+1))=scan u a++[((a:Int),(n:Int)+1)]
 | 0,h=>by
  show ZbA u a (scan u a)=_
  unfold ZbA;rw [if_neg (by rw [h a (Nat.le_refl _) (by omega)];decide),if_neg ?_]
  ·simp
  ·rintro ⟨h1,h2⟩
   rcases h0 with h0 | h0
   ·omega
   ·rw [h0] at h2;exact absurd h2 (by decide)
 | n+1,h=>by
  show ZbA u (a+(n+1)) (scan u (a+(n+1)))=_
  unfold ZbA;rw [if_neg (by rw [h (a+(n+1)) (by omega) (by omega)];decide),if_pos ⟨by omega,h _ (by omega) (by omega)⟩,scan_free h0 (fun j h1 h2=>h j h1 (by omega)),bump_snoc]
  simp
def usedBy (l:List Plc) (j:Nat):Bool:=l.any fun p=>decide (p.first≤(j:Int)) && decide ((j:Int)<p.first+szM p.mod)
theorem usedBy_false {l:List Plc} {j:Nat}:usedBy l j=false↔∀ p∈l,¬ (p.first≤(j:Int)∧(j:Int)<p.first+szM p.mod):=by
 unfold usedBy;rw [List.any_eq_false]
 simp
theorem usedBy_true {l:List Plc} {j:Nat}:usedBy l j=true↔∃ p∈l,p.first≤(j:Int)∧(j:Int)<p.first+szM p.mod:=by
 unfold usedBy;rw [List.any_eq_true]
 simp
theorem scan_gap {u:Nat→Bool} {a b:Nat} (hab:a≤b) (h0:a=0∨u (a-1)=true) (h:∀ j,a≤j→j<b→u j=false):scan u b=scan u a++Zce a b:=by
 by_cases hb:a=b
 ·subst hb
  simp [Zce]
 ·obtain ⟨n,rfl⟩:∃ n,b=a+(n+1):=⟨b-a-1,by omega⟩
  rw [scan_free h0 h];unfold Zce;rw [if_neg (by omega)]
  simp
  omega
theorem scan_runs {u:Nat→Bool}:∀ {l:List Plc} {e:Nat},okPl e l→(e=0∨u (e-1)=true)→(∀ j,e≤j→j<16→u j=usedBy l j)→scan u 16=scan u e++runsFrom e l
 | [],e,h,h0,hu=>by
  have h:(e:Int)≤16:=h;exact scan_gap (by omega) h0 (fun j h1 h2=>by rw [hu j h1 h2];rfl)
 | p::l,e,h,h0,hu=>by
  obtain ⟨h1,h2,h3,h4⟩:=h;obtain ⟨f,hf⟩:∃ f:Nat,p.first=f:=⟨p.first.toNat,by omega⟩
  rw [hf] at h1 h3 h4;have hl:=okPl_first h4;have g1:scan u f=scan u e++Zce e f:=by
   refine scan_gap (by omega) h0 fun j k1 k2=>?_;rw [hu j k1 (by omega),usedBy_false];intro q hq
   rcases List.mem_cons.1 hq with rfl | hq
   ·omega
   ·have:=hl q hq
    omega
  have hus:∀ j,f≤j→j<f+szM p.mod→u j=true:=by
   intro j k1 k2;rw [hu j (by omega) (by omega),usedBy_true];exact ⟨p,by simp,by omega,by omega⟩
  have g2:scan u (f+szM p.mod)=scan u f:=scan_used hus;have e1:((f+szM p.mod:Nat):Int)=p.first+szM p.mod:=by rw [hf];omega
  have g3:=scan_runs (u:=u) (l:=l) (e:=f+szM p.mod) (by rw [e1,hf];exact h4) (.inr (hus _ (by omega) (by omega))) (by
   intro j k1 k2;rw [hu j (by omega) k2];unfold usedBy;rw [List.any_cons]
   have:(decide (p.first≤(j:Int)) && decide ((j:Int)<p.first+szM p.mod))=false:=by
    simp
    omega
   rw [this,Bool.false_or])
  have g4:runsFrom e (p::l)=Zce e p.first++runsFrom (p.first+szM p.mod) l:=rfl
  rw [g3,g2,g1,e1,g4,hf,List.append_assoc]
theorem ix_map {α β:Type} (f:α→β) (p:β→Bool):∀ (l:List α) (k:Nat),Zag p k (l.map f)=Zag (fun x=>p (f x)) k l
 | [],_=>rfl
 | x::l,k=>by
  have h1:Zag p k ((x::l).map f)=if p (f x) then (k:Int) else Zag p (k+1) (l.map f):=rfl;have h2:Zag (fun x=>p (f x)) k (x::l)=if p (f x) then (k:Int) else Zag (fun x=>p (f x)) (k+1) l:=rfl;rw [h1,h2,ix_map f p l (k+1)]
theorem ix_spec {α:Type} (p:α→Bool):∀ (l:List α) (k:Nat),(Zag p k l = -1∧∀ x∈l,p x=false)∨∃ j x,Zag p k l=((k+j:Nat):Int)∧l[j]?=some x∧p x=true∧∀ i y,i<j→l[i]?=some y→p y=false
 | [],_=>.inl ⟨rfl,by simp⟩
 | y::l,k=>by
  have h1:Zag p k (y::l)=if p y then (k:Int) else Zag p (k+1) l:=rfl
  cases hy:p y
  ·rcases ix_spec p l (k+1) with ⟨h2,h3⟩ | ⟨j,x,h2,h3,h4,h5⟩
   ·refine .inl ⟨by rw [h1,hy,if_neg (by decide),h2],fun x hx=>?_⟩
    rcases List.mem_cons.1 hx with rfl | hx
    ·exact hy
    ·exact h3 x hx
   ·refine .inr ⟨j+1,x,by rw [h1,hy,if_neg (by decide),h2];congr 1;omega,by simpa using h3,h4,fun i z hi hz=>?_⟩
    cases i with
    | zero=>
     obtain rfl:y=z:=by simpa using hz
     exact hy
    | succ i=>exact h5 i z (by omega) (by simpa using hz)
  ·exact .inr ⟨0,y,by rw [h1,hy,if_pos rfl];rfl,rfl,hy,fun i z hi _=>by omega⟩
def putAt:List Plc→Plc→List Plc
 | [],x=>[x]
 | p::r,x=>if x.first<p.first then x::p::r else p::putAt r x
def putI {α:Type} (l:List α) (i:Nat) (x:α):List α:=l.take i++x::l.drop i
theorem putI_map {α β:Type} (f:α→β) (l:List α) (i:Nat) (x:α):(putI l i x).map f=putI (l.map f) i (f x):=by
 unfold putI;rw [List.map_append,List.map_cons,List.map_take,List.map_drop]
theorem putAt_ix (x:Plc):∀ (L:List Plc) (j:Nat),j≤L.length→(∀ i p,i<j→L[i]?=some p→¬ x.first<p.first)→(∀ p,L[j]?=some p→x.first<p.first)→putAt L x=putI L j x
 | [],j,hj,_,_=>by
  obtain rfl:j=0:=by simpa using hj
  rfl
 | p::r,0,_,_,h=>by
  have:=h p rfl
  show (if x.first<p.first then x::p::r else p::putAt r x)=_
  rw [if_pos this]
  rfl
 | p::r,j+1,hj,hb,h=>by
  have:=hb 0 p (by omega) rfl
  show (if x.first<p.first then x::p::r else p::putAt r x)=_
  rw [if_neg this,putAt_ix x r j (by simpa using hj) (fun i q hi hq=>hb (i+1) q (by omega) (by simpa using hq)) (fun q hq=>h q (by simpa using hq))]
  rfl
theorem put_cases (L:List Plc) (x:Plc):(Zag (fun p:Plc=>decide (x.first<p.first)) 0 L = -1∧putAt L x=putI L L.length x)∨∃ j:Nat,j<L.length∧Zag (fun p:Plc=>decide (x.first<p.first)) 0 L=(j:Int)∧putAt L x=putI L j x:=by
 rcases ix_spec (fun p:Plc=>decide (x.first<p.first)) L 0 with ⟨h1,h2⟩ | ⟨j,p,h1,h2,h3,h4⟩
 ·refine .inl ⟨h1,putAt_ix x L _ (Nat.le_refl _) (fun i p _ hp=>?_) (fun p hp=>?_)⟩
  ·have:=h2 p (List.mem_of_getElem? hp)
   simpa using this
  ·simp at hp
 ·rw [Nat.zero_add] at h1
  refine .inr ⟨j,(List.getElem?_eq_some_iff.1 h2).1,h1,putAt_ix x L j (Nat.le_of_lt (List.getElem?_eq_some_iff.1 h2).1) (fun i q hi hq=>?_) (fun q hq=>?_)⟩
  ·have:=h4 i q hi hq
   simpa using this
  ·rw [h2] at hq
   obtain rfl:=Option.some.inj hq
   simpa using h3
def roomOf (L:List Plc) (x:Int) (many:Int):Option Int:=
 if ((runsFrom 0 L).any fun r=>decide (r.1≤x) && decide (x+many≤r.1+r.2))=true then some x else (Zch many (runsFrom 0 L)).map (·.1)
def Zbd (L:List Plc) (M:Mod):List Plc × Int:=
 if Zac M≠0 then ([],Zac M) else if (L.any fun p=>p.mod.name == M.name)=true then ([],6) else if 8≤L.length then ([],2) else
 match Zch (szM M) (runsFrom 0 L) with
 | none=>([],8)
 | some r=>(putAt L ⟨M,r.1⟩,0)
def nameIx (L:List Plc) (name:ByteArray):Int:=Zag (fun p:Plc=>p.mod.name == name) 0 L
def remAt (L:List Plc) (name:ByteArray) (n:Nat):List Plc × Int:=if (L.any fun p=>Zcw p.mod name)=true then ([],4) else (L.eraseIdx n,0)
def remDo (L:List Plc) (name:ByteArray):List Plc × Int:=
 match nameIx L name with
 | .negSucc _=>([],5)
 | .ofNat n=>remAt L name n
def upTo (R:List Plc) (M:Mod) (o:Option Int):List Plc × Int:=
 match o with
 | none=>([],8)
 | some f=>(putAt R ⟨M,f⟩,0)
def upAt (L:List Plc) (M:Mod) (n:Nat):List Plc × Int:=
 match L[n]? with
 | none=>([],5)
 | some p=>upTo (L.eraseIdx n) M (roomOf (L.eraseIdx n) p.first (szM M))
def upDo (L:List Plc) (M:Mod):List Plc × Int:=
 if Zac M≠0 then ([],Zac M) else
 match nameIx L M.name with
 | .negSucc _=>([],5)
 | .ofNat n=>upAt L M n
theorem remDo_none {L:List Plc} {name:ByteArray} (h:nameIx L name = -1):remDo L name=([],5):=by
 unfold remDo;rw [h]
 rfl
theorem remDo_at {L:List Plc} {name:ByteArray} {n:Nat} (h:nameIx L name=(n:Int)):remDo L name=remAt L name n:=by
 unfold remDo;rw [h]
theorem upDo_bad {L:List Plc} {M:Mod} (h:Zac M≠0):upDo L M=([],Zac M):=by
 unfold upDo;rw [if_pos h]
theorem upDo_none {L:List Plc} {M:Mod} (h:Zac M=0) (hn:nameIx L M.name = -1):upDo L M=([],5):=by
 unfold upDo;rw [if_neg (by omega),hn]
 rfl
theorem upDo_at {L:List Plc} {M:Mod} {n:Nat} {p:Plc} (h:Zac M=0) (hn:nameIx L M.name=(n:Int)) (hp:L[n]?=some p):upDo L M=upTo (L.eraseIdx n) M (roomOf (L.eraseIdx n) p.first (szM M)):=by
 have h1:upDo L M=upAt L M n:=by
  unfold upDo;rw [if_neg (by omega),hn]
 rw [h1];unfold upAt;rw [hp]
end Go.Proofs.YtlpnfbpgnfappaaGreat
namespace Go.Proofs.YtlpnfbpgnfappaaGreat
open Go.RowKit Go.PlainAid Go.Lib
theorem pvC_cells {W:World} {B:Nat} {t:TypeId} {y:PV} (h:Za W B t (pvC y).toArray):∀ j u,(pvC y)[j]?=some u→W.cell? ((⟨B,0,none⟩:Addr).add j)=some u:=by
 intro j u hu;rw [add_none,Nat.zero_add,h.cell j]
 simpa using hu
theorem insEnd_any (v:Value) (n base vb:Nat) (l:List PV) (y:PV) (w:World) (hown:w.ownsRow base 57 8 v n (l.flatMap pvC)) (hn:l.length=n) (hy:∀ u∈pvC y,u.oneCell'=true) (h255:n≤254) (hvb:Za w vb 57 (pvC y).toArray) (hb:base≤w.heap.size) :
  Calls Tryz.prog 96 #[v,.int .i64 n,.slice (some ⟨vb,0,none⟩) 1 1] w fun e w'=>∃ v',e=.returned v'∧w'.ownsRow base 57 8 v' (n+1) ((l++[y]).flatMap pvC)∧w.grownBy w' v.ownBlock:=by
 obtain ⟨i0,hi0,hz0,hz1,hz2⟩:=infoPlc_parts;have HN:Hid (∀ j u,(pvC y)[j]?=some u→w.cell? ((⟨vb,0,none⟩:Addr).add j)=some u):=pvC_cells hvb;have HO:Hid (w.ownsRow base 57 8 v n (l.flatMap pvC)):=hown;have HE:Hid ((l++[y]).flatMap pvC=l.flatMap pvC++pvC y):=by show _=_;simp
 have HY:Hid (∀ u∈pvC y,u.oneCell'=true):=hy;obtain ⟨va,vc,rfl⟩:=Zae hown;have hnc:n≤vc:=by
  rcases hown.2 with ⟨h1,h2⟩ | ⟨g,cap,cur,h1,_,_,h2,_⟩
  ·omega
  ·injection h1 with _ _ h1;omega
 have hva:va=none→n=0∧vc=0:=by
  rintro rfl
  rcases hown.2 with ⟨h1,h2⟩ | ⟨g,cap,cur,h1,_⟩
  ·injection h1 with _ _ h1
   exact ⟨h2,h1⟩
  ·simp at h1
 clear hown hy hvb
 go_enter Tryz.func96,Tryz.ntmps96
 rcases va with _ | ⟨ab,ao,asp⟩
 ·obtain ⟨rfl,rfl⟩:=hva rfl
  go_wp2_with (at_builtin;refine wpList_append_own _ rfl _ _ 25 rfl base 57 i0 _ 8 128 Tryz.underlying25 hi0 hz0 hz1 hz2 rfl (by decide) _ _ _ rfl HO.out ⟨vb,0,none⟩ 1 1 (pvC y) rfl rfl HN.out HY.out (by unfold maxLen;omega) (by omega) hb ?_);intro v' w1 hown hgrow hnil;go_wp2;go_ret;exact ⟨v',rfl,by rw [HE.out];exact hown,hgrow⟩
 ·by_cases hcv:vc=n
  all_goals
   go_wp2_with (at_builtin;refine wpList_append_own _ rfl _ _ 25 rfl base 57 i0 _ 8 128 Tryz.underlying25 hi0 hz0 hz1 hz2 rfl (by decide) _ _ _ rfl HO.out ⟨vb,0,none⟩ 1 1 (pvC y) rfl rfl HN.out HY.out (by unfold maxLen;omega) (by omega) hb ?_);intro v' w1 hown hgrow hnil;go_wp2;go_ret;exact ⟨v',rfl,by rw [HE.out];exact hown,hgrow⟩
theorem flat8 (l:List PV):(l.flatMap pvC).length=l.length*8:=Zca (C:=pvC) (sz:=8) (fun _=>rfl) l
theorem sizeOf_placed (w:World):(Go.sizeOf 57).run Tryz.prog w=.ok 8 w:=by
 obtain ⟨i0,hi0,_,hz1,_⟩:=infoPlc_parts;simp [Go.sizeOf,typeInfo,hi0,hz1]
theorem insShift_any (g cap n i base vb:Nat) (l:List PV) (y:PV) (w:World) (hown:w.ownsRow base 57 8 (.slice (some ⟨g,0,none⟩) n cap) n (l.flatMap pvC)) (hn:l.length=n) (hi:i<n) (hroom:n+1≤cap) (hl:∀ u∈l.flatMap pvC,u.oneCell'=true) (hy:∀ u∈pvC y,u.oneCell'=true) (h255:n≤254) (hvb:Za w vb 57 (pvC y).toArray) (hgv:vb≠g) :
  Calls Tryz.prog 96 #[.slice (some ⟨g,0,none⟩) n cap,.int .i64 i,.slice (some ⟨vb,0,none⟩) 1 1] w fun e w'=>e=.returned (.slice (some ⟨g,0,none⟩) (n+1) cap)∧w'.ownsRow base 57 8 (.slice (some ⟨g,0,none⟩) (n+1) cap) (n+1) ((putI l i y).flatMap pvC)∧w.grownBy w' (some g):=by
 obtain ⟨i0,hi0,hz0,hz1,hz2⟩:=infoPlc_parts;have hcap:=own_capB hown;have hyl:(pvC y).length=8:=rfl;have hov:∀ lb cb,(callFunc 151 #[.slice (some ⟨vb,0,none⟩) 1 1,.slice (some ⟨g,(i+1)*8,none⟩) lb cb]).run Tryz.prog w=.ok (.value (.bool false)) w:=fun lb cb=>by
  rw [run_callFunc_extern Tryz.func151 (by kernel_rfl) (by kernel_rfl) (by kernel_rfl) (e:=Extern.SlicesOverlaps.overlaps #[25,25] #[4]) (by kernel_rfl),
   Lib.run_overlaps_apart w 25 4 57 Tryz.underlying25 8 sizeOf_placed ⟨vb,0,none⟩ ⟨g,(i+1)*8,none⟩ 1 1 lb cb hgv _ _ _ _ (cells_shape hvb) (own_shape hown) (by omega) (hvb.frozen 0) (hvb.frozen _)]
  rfl
 obtain ⟨cs,hcs⟩:∃ cs,(l.drop i).flatMap pvC=cs:=⟨_,rfl⟩;have hdrop:(l.flatMap pvC).drop (i*8)=cs:=by rw [flat_drop (C:=pvC) (sz:=8) (fun _=>rfl),hcs]
 have hcl:cs.length=(n-i)*8:=by rw [← hcs,flat8,List.length_drop,hn]
 obtain ⟨sp,hsp,hw1⟩:=own_widen hown.drew hroom;have hL1:=own_lay cs _ ((i+1)*8) _ hw1;have hfl:(l.flatMap pvC).length=n*8:=by rw [flat8,hn]
 obtain ⟨W1,hW1⟩:∃ W1,W1=w.drew.setCells g ((i+1)*8) cs:=⟨_,rfl⟩;rw [← hW1] at hL1;have hL2:∀ W,W1.grownBy W none→W.heap=W1.heap→_:=fun W h1 h2=>own_lay (pvC y) _ (i*8) W (hL1.1.kept h1 (by cases Value.ownBlock (Value.slice (some ⟨g,0,none⟩) (n+1) cap) <;> simp));have hm1:cs.length=Nat.min (n+1-i) (n-i)*8:=by
  have e1:Nat.min (n+1-i) (n-i)=n-i:=Nat.min_eq_right (by omega);rw [hcl,e1]
 have hm2:(pvC y).length=Nat.min 1 (n+1-i)*8:=by
  have e1:Nat.min 1 (n+1-i)=1:=Nat.min_eq_left (by omega);rw [hyl,e1]
 have hcp1:∀ ty dc sc,(Builtin.copy_ #[25,25] ty #[.slice (some ⟨g,(i+1)*8,none⟩) (n-i) dc,.slice (some ⟨g,i*8,none⟩) (n+1-i) sc]).run Tryz.prog w.drew=.ok (goInt (Nat.min (n+1-i) (n-i))) W1:=fun ty dc sc=>by
  rw [hW1];exact run_copy_rows w.drew _ _ ty 57 i0 8 g ((i+1)*8) _ dc ⟨g,i*8,none⟩ _ sc cs Tryz.underlying25 hi0 hz1 hm1
   (fun j u hj=>by
    rw [add_none];refine own_cellAt hown ?_;rw [← hdrop,List.getElem?_drop] at hj;exact hj)
   (fun j hj=>(Zcr hown _ (by omega)).1) (fun j hj=>(Zcr hown _ (by omega)).2) (fun u hu=>hl u (by rw [← hdrop] at hu;exact List.mem_of_mem_drop hu))
 have hvb1:∀ W:World,W.heap=W1.heap→Za W vb 57 (pvC y).toArray:=fun W h=>by
  have h1:w.drew.grownBy W1 (some g):=hL1.2
  have:=(show Za w.drew vb _ _ from hvb).kept h1 (by intro e;exact hgv (Option.some.inj e))
  unfold Za at this ⊢;rw [h];exact this
 have hcp2:∀ W:World,W.heap=W1.heap→W1.grownBy W none→∀ ty dc,(Builtin.copy_ #[25,25] ty #[.slice (some ⟨g,i*8,none⟩) (n+1-i) dc,.slice (some ⟨vb,0,none⟩) 1 1]).run Tryz.prog W=.ok (goInt (Nat.min 1 (n+1-i))) (W.setCells g (i*8) (pvC y)):=fun W h hg ty dc=>
  run_copy_rows W _ _ ty 57 i0 8 g (i*8) _ dc ⟨vb,0,none⟩ 1 1 (pvC y) Tryz.underlying25 hi0 hz1 hm2
   (pvC_cells (hvb1 W h)) (fun j hj=>(Zcr (hL1.1.kept hg (by cases Value.ownBlock (Value.slice (some ⟨g,0,none⟩) (n+1) cap) <;> simp)) _ (by omega)).1) (fun j hj=>(Zcr (hL1.1.kept hg (by cases Value.ownBlock (Value.slice (some ⟨g,0,none⟩) (n+1) cap) <;> simp)) _ (by omega)).2) hy
 have hxs:layL (layL (l.flatMap pvC++sp) ((i+1)*8) cs) (i*8) (pvC y)=(putI l i y).flatMap pvC:=by
  rw [layL_eq cs _ _ (by rw [List.length_append,hfl,hsp,hcl];omega)];rw [List.drop_of_length_le (by rw [List.length_append,hfl,hsp,hcl];omega),List.append_nil];have ht:(List.take ((i+1)*8) (l.flatMap pvC++sp)).length=(i+1)*8:=by rw [List.length_take,List.length_append,hfl,hsp];omega
  rw [layL_eq (pvC y) _ _ (by rw [List.length_append,ht,hcl,hyl];omega)];rw [List.drop_append,hyl,ht,List.drop_of_length_le (by rw [ht];omega),List.nil_append,show i*8+8-(i+1)*8=0 by omega,List.drop_zero];rw [List.take_append_of_le_length (by rw [ht];omega),List.take_take,Nat.min_eq_left (by omega),List.take_append_of_le_length (by rw [hfl];omega),flat_take (C:=pvC) (sz:=8) (fun _=>rfl)];unfold putI;rw [List.flatMap_append,List.flatMap_cons,hcs,List.append_assoc]
 have HR:Hid (∀ W:World,W.heap=W1.heap→W1.grownBy W none→(W.setCells g (i*8) (pvC y)).ownsRow base 57 8 (.slice (some ⟨g,0,none⟩) (n+1) cap) (n+1) ((putI l i y).flatMap pvC)∧w.grownBy (W.setCells g (i*8) (pvC y)) (some g)):=fun W h1 h2=>by
  obtain ⟨k1,k2⟩:=hL2 W h2 h1;rw [hxs] at k1;exact ⟨k1,(((grown_drew w _).trans hL1.2).trans (grown_up h2)).trans k2⟩
 have hne1:¬ ((1:Int)=0):=by omega
 have hz2':¬ ((i:Int)=(n:Int)):=by omega
 have hin:i≤n:=by omega
 have hb1:(0:Int)≤(i:Int)+1:=by omega
 have hb3:(i:Int)≤(n:Int)+1:=by omega
 have hcn:¬ (cap=i+1):=by omega
 have hcn':¬ (cap=i):=by omega
 have hwr1:IntKind.i64.wrap ((i:Int)+1)=(i:Int)+1:=by rw [IntKind.wrap_i64];omega
 have hwr2:IntKind.i64.wrap ((n:Int)+1)=(n:Int)+1:=by rw [IntKind.wrap_i64];omega
 have mixed:Tryz.prog.follows Departure.mixedOrders=true:=by kernel_rfl
 have HC1:Hid _:=hcp1;have HC2:Hid _:=hcp2;have HOV:Hid _:=hov;clear hm1 hm2 hcp1 hcp2 hL2 hL1 hw1 hxs hvb1 hdrop hcs hown hl hy hvb hsp hfl hyl hcl hov hW1
 go_enter Tryz.func96,Tryz.ntmps96
 go_wp2_with (simp only [HOV.out])
 go_region_law_o (refine step_copy_run2 rfl _ _ 25 25 rfl (.slice (some ⟨g,(i+1)*8,none⟩) (n-i) (cap-(i+1))) (.slice (some ⟨g,i*8,none⟩) (n+1-i) (cap-i)) (by simp [Act.eval,Act.put]) (by simp [Act.eval,Act.put]) (HC1.out 3 (cap-(i+1)) (cap-i)) ?_)
 go_wp2_with fail;rw [HC2.out W1 rfl (grown_refl W1 none)];simp only [Result.andThen];rw [Oper.upon_value];go_wp2;go_ret;exact ⟨rfl,(HR.out W1 rfl (grown_refl _ _)).1,(HR.out W1 rfl (grown_refl _ _)).2⟩
theorem insGrow_any (g n i base vb:Nat) (l:List PV) (y:PV) (w:World) (hown:w.ownsRow base 57 8 (.slice (some ⟨g,0,none⟩) n n) n (l.flatMap pvC)) (hn:l.length=n) (hi:i<n) (hl:∀ u∈l.flatMap pvC,u.oneCell'=true) (hy:∀ u∈pvC y,u.oneCell'=true) (h255:n≤254) (hvb:Za w vb 57 (pvC y).toArray) (hb:base≤w.heap.size) :
  Calls Tryz.prog 96 #[.slice (some ⟨g,0,none⟩) n n,.int .i64 i,.slice (some ⟨vb,0,none⟩) 1 1] w fun e w'=>∃ v',e=.returned v'∧w'.ownsRow base 57 8 v' (n+1) ((putI l i y).flatMap pvC)∧w.grownBy w' (some w.heap.size):=by
 obtain ⟨i0,hi0,hz0,hz1,hz2⟩:=infoPlc_parts;have hyl:(pvC y).length=8:=rfl;have hfl:(l.flatMap pvC).length=n*8:=by rw [flat8,hn]
 obtain ⟨cs,hcs⟩:∃ cs,(l.drop i).flatMap pvC=cs:=⟨_,rfl⟩;have hdrop:(l.flatMap pvC).drop (i*8)=cs:=by rw [flat_drop (C:=pvC) (sz:=8) (fun _=>rfl),hcs]
 have hcl:cs.length=(n-i)*8:=by rw [← hcs,flat8,List.length_drop,hn]
 obtain ⟨os,hos⟩:∃ os,(l.take i).flatMap pvC=os:=⟨_,rfl⟩;have htake:(l.flatMap pvC).take (i*8)=os:=by rw [flat_take (C:=pvC) (sz:=8) (fun _=>rfl),hos]
 have hol:os.length=i*8:=by rw [← hos,flat8,List.length_take,hn,Nat.min_eq_left (by omega)]
 have hgw:g<w.heap.size:=(hown.lt g rfl).2;have hvw:vb<w.heap.size:=hvb.lt;obtain ⟨z,hz⟩:∃ z:Value,z=.agg #[.string ⟨#[]⟩,.int .i64 0,.int .i64 0,.string ⟨#[]⟩,.slice none 0 0,.slice none 0 0,.slice none 0 0,.int .i64 0]:=⟨_,rfl⟩;have hzc:z.cells.size=8:=by rw [hz];rfl
 rw [← hz] at hz0;have hold:(Builtin.firstCells i0.size i (.slice (some ⟨g,0,none⟩) i n)).run Tryz.prog w.drew=.ok os.toArray w.drew:=by
  rw [hz1];exact run_firstCells_some w.drew 8 i ⟨g,0,none⟩ i n os hol (fun j u hj=>by
   rw [add_none,Nat.zero_add];refine own_cellAt hown ?_;rw [← htake,List.getElem?_take] at hj
   split at hj
   ·exact hj
   ·cases hj)
 obtain ⟨G,hG⟩:∃ G,G=grownCap w (n+1) n 57:=⟨_,rfl⟩;obtain ⟨ROW,hROW⟩:∃ ROW:Array Value,ROW=os.toArray++Builtin.zeroCells z.cells (n+1-i)++Builtin.zeroCells z.cells (G-(n+1)):=⟨_,rfl⟩;obtain ⟨W1,hW1⟩:∃ W1,W1=w.drew.alloc (.cells ROW 57):=⟨_,rfl⟩;have hrz:∀ ty,(Builtin.append_ #[25,3] ty #[.slice (some ⟨g,0,none⟩) i n,.int .i64 ((n:Int)+1-(i:Int))]).run Tryz.prog w=.ok (.slice (some ⟨w.heap.size,0,none⟩) (n+1) G) W1:=fun ty=>by
  have h:=Lib.run_append_grow_zeros w 25 3 ty 57 i0 z .i64 .i64 Tryz.underlying25 Tryz.underlying3 hi0 hz0 (some ⟨g,0,none⟩) i n os hold (n+1-i) (by omega) (by omega) (by omega) (by omega) (by rw [hz2];omega) (by
   rw [hz2];exact growslice_fits (by omega) (by omega))
  rw [show i+(n+1-i)=n+1 by omega,← hG,← hROW,← hW1] at h;rw [show (n:Int)+1-(i:Int)=((n+1-i:Nat):Int) by omega];exact h
 have hGn:n+1≤G:=by rw [hG];exact grownCap_ge w _ _ _
 have hG63:G≤maxLen:=by rw [hG];exact grownCap_le_maxLen w (n+1) n 57 (by unfold maxLen;omega)
 have hzl:(Builtin.zeroCells z.cells (n+1-i)).toList.length=(n+1-i)*8:=by rw [Array.length_toList,size_zeroCells,hzc]
 have ho1:W1.ownsRow base 57 8 (.slice (some ⟨w.heap.size,0,none⟩) (n+1) G) (n+1) (os++(Builtin.zeroCells z.cells (n+1-i)).toList):=by
  rw [hW1];refine ⟨by rw [List.length_append,hol,hzl];omega,.inr ⟨w.heap.size,G,ROW,rfl,hb,heap_alloc_new w.drew _,hGn,hG63,?_,?_⟩⟩
  ·rw [hROW]
   simp only [Array.size_append,List.size_toArray,size_zeroCells,hzc,hol]
   omega
  ·rw [hROW]
   simp only [Array.toList_append];exact List.take_left' (by rw [List.length_append,hol,hzl];omega)
 have hg1:w.grownBy W1 (some w.heap.size):=by rw [hW1];exact (grown_drew w _).trans (World.grownBy_alloc _ _ _)
 obtain ⟨zs,hzs⟩:∃ zs,(Builtin.zeroCells z.cells (n+1-i)).toList=zs:=⟨_,rfl⟩;rw [hzs] at ho1 hzl;have hm2:(pvC y).length=Nat.min 1 (n+1-i)*8:=by
  have e1:Nat.min 1 (n+1-i)=1:=Nat.min_eq_left (by omega);rw [hyl,e1]
 have hm1:cs.length=Nat.min (n-i) (n-i)*8:=by
  have e1:Nat.min (n-i) (n-i)=n-i:=Nat.min_self _;rw [hcl,e1]
 -- the first copy
 have hcpA:∀ W:World,W1.grownBy W none→W.heap=W1.heap→∀ ty dc,(Builtin.copy_ #[25,25] ty #[.slice (some ⟨w.heap.size,i*8,none⟩) (n+1-i) dc,.slice (some ⟨vb,0,none⟩) 1 1]).run Tryz.prog W=.ok (goInt (Nat.min 1 (n+1-i))) (W.setCells w.heap.size (i*8) (pvC y)):=fun W hg h ty dc=>by
  have ho:W.ownsRow base 57 8 (.slice (some ⟨w.heap.size,0,none⟩) (n+1) G) (n+1) (os++zs):=ho1.kept hg (by cases Value.ownBlock (Value.slice (some ⟨w.heap.size,0,none⟩) (n+1) G) <;> simp);have hv:Za W vb 57 (pvC y).toArray:=(hvb.kept hg1 (by intro e;have:=Option.some.inj e;omega)).kept hg (by simp);exact run_copy_rows W _ _ ty 57 i0 8 w.heap.size (i*8) _ dc ⟨vb,0,none⟩ 1 1 (pvC y) Tryz.underlying25 hi0 hz1 hm2 (pvC_cells hv) (fun j hj=>(Zcr ho _ (by omega)).1) (fun j hj=>(Zcr ho _ (by omega)).2) hy
 have hA:∀ W:World,W1.grownBy W none→(W.setCells w.heap.size (i*8) (pvC y)).ownsRow base 57 8 (.slice (some ⟨w.heap.size,0,none⟩) (n+1) G) (n+1) (layL (os++zs) (i*8) (pvC y))∧w.grownBy (W.setCells w.heap.size (i*8) (pvC y)) (some w.heap.size):=fun W hg=>by
  have ho:W.ownsRow base 57 8 (.slice (some ⟨w.heap.size,0,none⟩) (n+1) G) (n+1) (os++zs):=ho1.kept hg (by cases Value.ownBlock (Value.slice (some ⟨w.heap.size,0,none⟩) (n+1) G) <;> simp);obtain ⟨k1,k2⟩:=own_lay (pvC y) _ (i*8) W ho;exact ⟨k1,(hg1.trans (grown_up hg)).trans k2⟩
 have hcpB:∀ W:World,w.grownBy W (some w.heap.size)→W.ownsRow base 57 8 (.slice (some ⟨w.heap.size,0,none⟩) (n+1) G) (n+1) (layL (os++zs) (i*8) (pvC y))→∀ ty dc sc,(Builtin.copy_ #[25,25] ty #[.slice (some ⟨w.heap.size,(i+1)*8,none⟩) (n-i) dc,.slice (some ⟨g,i*8,none⟩) (n-i) sc]).run Tryz.prog W=.ok (goInt (Nat.min (n-i) (n-i))) (W.setCells w.heap.size ((i+1)*8) cs):=fun W hg ho ty dc sc=>by
  have hs:W.ownsRow base 57 8 (.slice (some ⟨g,0,none⟩) n n) n (l.flatMap pvC):=hown.kept hg (.inr (by simp [Value.ownBlock];omega));exact run_copy_rows W _ _ ty 57 i0 8 w.heap.size ((i+1)*8) _ dc ⟨g,i*8,none⟩ _ sc cs Tryz.underlying25 hi0 hz1 hm1
   (fun j u hj=>by
    rw [add_none];refine own_cellAt hs ?_;rw [← hdrop,List.getElem?_drop] at hj;exact hj)
   (fun j hj=>(Zcr ho _ (by omega)).1) (fun j hj=>(Zcr ho _ (by omega)).2) (fun u hu=>hl u (by rw [← hdrop] at hu;exact List.mem_of_mem_drop hu))
 have hxs:layL (layL (os++zs) (i*8) (pvC y)) ((i+1)*8) cs=(putI l i y).flatMap pvC:=by
  rw [layL_eq (pvC y) _ _ (by rw [List.length_append,hol,hzl,hyl];omega)];rw [List.take_left' hol];have hlen:(os++pvC y).length=(i+1)*8:=by rw [List.length_append,hol,hyl];omega
  rw [layL_eq cs _ _ (by rw [List.length_append,hlen,List.length_drop,List.length_append,hol,hzl,hcl,hyl];omega)];rw [List.take_left' hlen,List.drop_of_length_le (by rw [List.length_append,hlen,List.length_drop,List.length_append,hol,hzl,hcl,hyl];omega),List.append_nil];unfold putI;rw [List.flatMap_append,List.flatMap_cons,hcs,hos,List.append_assoc]
 have HB:Hid (∀ W:World,w.grownBy W (some w.heap.size)→W.ownsRow base 57 8 (.slice (some ⟨w.heap.size,0,none⟩) (n+1) G) (n+1) (layL (os++zs) (i*8) (pvC y))→(W.setCells w.heap.size ((i+1)*8) cs).ownsRow base 57 8 (.slice (some ⟨w.heap.size,0,none⟩) (n+1) G) (n+1) ((putI l i y).flatMap pvC)∧w.grownBy (W.setCells w.heap.size ((i+1)*8) cs) (some w.heap.size)):=fun W h1 h2=>by
  obtain ⟨k1,k2⟩:=own_lay cs _ ((i+1)*8) W h2;rw [hxs] at k1;exact ⟨k1,h1.trans k2⟩
 have HA:Hid _:=hA;have HCA:Hid _:=hcpA;have HCB:Hid _:=hcpB;have HRZ:Hid _:=hrz;have hne1:¬ ((1:Int)=0):=by omega
 have hz2':¬ ((i:Int)=(n:Int)):=by omega
 have hin:i≤n:=by omega
 have hb1:(0:Int)≤(i:Int)+1:=by omega
 have hb3:(i:Int)≤(n:Int)+1:=by omega
 have hb4:(i:Int)≤(n:Int):=by omega
 have hgt:(n:Int)<(n:Int)+1:=by omega
 have hcn':¬ (n=i):=by omega
 have hGi:¬ (G=i):=by omega
 have hGi1:¬ (G=i+1):=by omega
 have hwr1:IntKind.i64.wrap ((i:Int)+1)=(i:Int)+1:=by rw [IntKind.wrap_i64];omega
 have hwr2:IntKind.i64.wrap ((n:Int)+1)=(n:Int)+1:=by rw [IntKind.wrap_i64];omega
 have hwr3:IntKind.i64.wrap ((n:Int)+1-(i:Int))=(n:Int)+1-(i:Int):=by rw [IntKind.wrap_i64];omega
 have htn:((i:Int)+1).toNat=i+1:=by omega
 have mixed:Tryz.prog.follows Departure.mixedOrders=true:=by kernel_rfl
 clear hm1 hm2 hcpA hcpB hA hrz hxs hdrop htake hcs hos hown hl hy hvb hfl hyl hcl hol hW1 hROW hG ho1 hg1 hzs hzl hold hz hzc hz0
 go_enter Tryz.func96,Tryz.ntmps96
 go_wp2_with (at_builtin;refine Lib.wpList_append_run _ rfl _ _ _ _ rfl _ _ rfl rfl _ _ (HRZ.out _) ?_);rw [HCA.out W1 (grown_refl W1 none) rfl];simp only [Result.andThen];rw [Oper.upon_value];obtain ⟨hA1,hA2⟩:=HA.out W1 (grown_refl W1 none);have HO2:Hid _:=hA1;have HG2:Hid _:=hA2;clear hA1 hA2;generalize W1.setCells w.heap.size (i*8) (pvC y)=W2 at *;go_wp2_with fail
 go_region_law_o (refine step_copy_run2 rfl _ _ 25 25 rfl (.slice (some ⟨w.heap.size,(i+1)*8,none⟩) (n-i) (G-(i+1))) (.slice (some ⟨g,i*8,none⟩) (n-i) (n-i)) (by simp [Act.eval,Act.put]) (by simp [Act.eval,Act.put]) (HCB.out W2.drew (HG2.out.trans (grown_drew W2 _)) HO2.out 3 (G-(i+1)) (n-i)) ?_)
 go_wp2;go_ret;obtain ⟨k1,k2⟩:=HB.out W2.drew (HG2.out.trans (grown_drew W2 _)) HO2.out;exact ⟨_,rfl,k1,k2⟩
theorem grown_new {W W':World} {b:Option Nat} (h:W.grownBy W' (some W.heap.size)):W.grownBy W' b:=⟨h.os,h.tape,h.output,h.size,fun k hk _=>h.block k hk (by intro e;have:=Option.some.inj e;omega)⟩
theorem insPlc_any (v:Value) (n i base vb:Nat) (l:List PV) (y:PV) (w:World) (hown:w.ownsRow base 57 8 v n (l.flatMap pvC)) (hn:l.length=n) (hi:i≤n) (hl:∀ u∈l.flatMap pvC,u.oneCell'=true) (hy:∀ u∈pvC y,u.oneCell'=true) (h255:n≤254) (hvb:Za w vb 57 (pvC y).toArray) (hgv:v.ownBlock≠some vb) (hb:base≤w.heap.size) :
  Calls Tryz.prog 96 #[v,.int .i64 i,.slice (some ⟨vb,0,none⟩) 1 1] w fun e w'=>∃ v',e=.returned v'∧w'.ownsRow base 57 8 v' (n+1) ((putI l i y).flatMap pvC)∧w.grownBy w' v.ownBlock:=by
 by_cases hin:i=n
 ·subst hin
  refine (insEnd_any v i base vb l y w hown hn hy h255 hvb hb).mono ?_;rintro e w' ⟨v',rfl,h1,h2⟩;refine ⟨v',rfl,?_,h2⟩
  have:putI l i y=l++[y]:=by
   unfold putI;rw [List.take_of_length_le (by omega),List.drop_of_length_le (by omega)]
  rw [this];exact h1
 ·obtain ⟨g,cap,cur,rfl,-⟩:∃ g cap cur,v=.slice (some ⟨g,0,none⟩) n cap∧w.heap[g]?=some (.cells cur 57 (0,0)):=by
   rcases hown.2 with ⟨_,h0⟩ | ⟨g,cap,cur,h1,_,h2,_⟩
   ·omega
   ·exact ⟨g,cap,cur,h1,h2⟩
  have hcap:=own_capB hown
  by_cases hroom:n+1≤cap
  ·refine (insShift_any g cap n i base vb l y w hown hn (by omega) hroom hl hy h255 hvb (by intro e;subst e;exact hgv rfl)).mono ?_
   rintro e w' ⟨rfl,h1,h2⟩;exact ⟨_,rfl,h1,h2⟩
  ·obtain rfl:cap=n:=by omega
   refine (insGrow_any g cap i base vb l y w hown hn (by omega) hl hy h255 hvb hb).mono ?_;rintro e w' ⟨v',rfl,h1,h2⟩;exact ⟨v',rfl,h1,grown_new h2⟩
end Go.Proofs.YtlpnfbpgnfappaaGreat
