/- Texts that are laid together. -/
import Derived.Test.YtlpnfbpgnfappaaGreatMrgO
import Derived.Test.YtlpnfbpgnfappaaGreatMrgN
import Derived.Laws.ResultCell
import Derived.Deep.CutBlock
import Derived.Deep.CutRange
import Derived.Deep.LoopGhost
set_option maxHeartbeats 256000000
set_option maxRecDepth 100000

namespace Go.Proofs.YtlpnfbpgnfappaaGreat
open Go.RowKit Go.PlainAid Go.Lib
theorem spoilModule_any (B:Nat) (v:Value) (w:World) (h:SpMod B w v) (hB:B≤w.heap.size) :
  Calls Tryz.prog 35 #[v] w fun e w'=>e=.returned (.tuple #[])∧Spl B w w':=by
 obtain ⟨u0,u1,u2,u3,ve,vi,vp,le,li,lp,rfl,h1,h2,h3⟩:=h;obtain ⟨a1,n1,c1,rfl⟩:∃ a n c,ve=.slice a n c:=by obtain ⟨_,a,c,e,_⟩:=h1;exact ⟨a,_,c,e⟩
 obtain ⟨a2,n2,c2,rfl⟩:∃ a n c,vi=.slice a n c:=by obtain ⟨_,a,c,e,_⟩:=h2;exact ⟨a,_,c,e⟩
 obtain ⟨a3,n3,c3,rfl⟩:∃ a n c,vp=.slice a n c:=by obtain ⟨_,a,c,e,_⟩:=h3;exact ⟨a,_,c,e⟩
 obtain ⟨rfl,H1⟩:=h1.spotS;obtain ⟨rfl,H2⟩:=h2.spotS;obtain ⟨rfl,H3⟩:=h3.spotI;have hl1:=h1.1;have hl2:=h2.1;have hl3:=h3.1;have HX1:Hid _:=H1;have HX2:Hid _:=H2;have HX3:Hid _:=H3;clear h1 h2 h3 H1 H2 H3;have HS0:Hid (Spl B w (w.alloc (.cells #[u0,u1,u2,u3,.slice a1 n1 c1,.slice a2 n2 c2,.slice a3 n3 c3] 31))):=Spl.of_below ((Below.refl _ _).alloc (Nat.le_refl _) _) hB;have HC0:Hid (Za (w.alloc (.cells #[u0,u1,u2,u3,.slice a1 n1 c1,.slice a2 n2 c2,.slice a3 n3 c3] 31)) w.heap.size 31 #[u0,u1,u2,u3,.slice a1 n1 c1,.slice a2 n2 c2,.slice a3 n3 c3]):=Za.new _ _ _
 go_enter Tryz.func35,Tryz.ntmps35
 go_wp2_with fail;generalize w.alloc (.cells #[u0,u1,u2,u3,.slice a1 n1 c1,.slice a2 n2 c2,.slice a3 n3 c3] 31)=wA at *
 go_loopw [2] (fun i wr=>∃ (j:Nat),j≤n1∧i=.int .i64 j∧Hid (Spl B w wr)∧Hid (Za wr w.heap.size 31 #[u0,u1,u2,u3,.slice a1 n1 c1,.slice a2 n2 c2,.slice a3 n3 c3])) (fun i _=>n1-(intOf i).toNat)
 case atStart=>exact ⟨0,Nat.zero_le _,rfl,HS0,HC0⟩
 case round=>
  clear HS0 HC0;obtain ⟨j,hj,rfl,HS,HC⟩:=hrel;have d4:=HC.out.cell 4;simp at d4
  by_cases hlt:j<n1
  ·obtain ⟨b,rfl,hbw,hw⟩:=HX1.out j hlt
   obtain ⟨u,cu,fu,hs⟩:=hw wr HS.out;have HS2:Hid _:=hs (⟨#[63]⟩);have HC2:Hid _:=HC.out.kept (Zai wr b (j*2+0) (.string ⟨#[63]⟩)) (by simp;omega);simp only [Nat.add_zero] at cu fu HS2 HC2;clear hw hs HS HC;go_wp2;exact ⟨⟨j+1,by omega,by go_num,HS2,HC2⟩,by simp [intOf];omega⟩
  ·obtain rfl:n1=j:=by omega
   have HS0:=HS;have HC0:=HC;clear HS HC;go_wp2_with fail;clear d4
   go_loopw [3] (fun i wr=>∃ (j:Nat),j≤n2∧i=.int .i64 j∧Hid (Spl B w wr)∧Hid (Za wr w.heap.size 31 #[u0,u1,u2,u3,.slice a1 n1 c1,.slice a2 n2 c2,.slice a3 n3 c3])) (fun i _=>n2-(intOf i).toNat)
   case atStart=>exact ⟨0,Nat.zero_le _,rfl,HS0,HC0⟩
   case round=>
    clear HS0 HC0;obtain ⟨j,hj,rfl,HS,HC⟩:=hrel;have d5:=HC.out.cell 5;simp at d5
    by_cases hlt:j<n2
    ·obtain ⟨b,rfl,hbw,hw⟩:=HX2.out j hlt
     obtain ⟨u,cu,fu,hs⟩:=hw wr HS.out;have HS2:Hid _:=hs (⟨#[63]⟩);have HC2:Hid _:=HC.out.kept (Zai wr b (j*4+1) (.string ⟨#[63]⟩)) (by simp;omega);clear hw hs HS HC;go_wp2;exact ⟨⟨j+1,by omega,by go_num,HS2,HC2⟩,by simp [intOf];omega⟩
    ·obtain rfl:n2=j:=by omega
     have HS0:=HS;have HC0:=HC;clear HS HC;go_wp2_with fail;clear d5
     go_loopw [4] (fun i wr=>∃ (j:Nat),j≤n3∧i=.int .i64 j∧Hid (Spl B w wr)∧Hid (Za wr w.heap.size 31 #[u0,u1,u2,u3,.slice a1 n1 c1,.slice a2 n2 c2,.slice a3 n3 c3])) (fun i _=>n3-(intOf i).toNat)
     case atStart=>exact ⟨0,Nat.zero_le _,rfl,HS0,HC0⟩
     case round=>
      clear HS0 HC0;obtain ⟨j,hj,rfl,HS,HC⟩:=hrel;have d6:=HC.out.cell 6;simp at d6
      by_cases hlt:j<n3
      ·obtain ⟨b,rfl,hbw,hw⟩:=HX3.out j hlt
       obtain ⟨u,cu,fu,hs⟩:=hw wr HS.out;have HS2:Hid _:=hs (-7);have HC2:Hid _:=HC.out.kept (Zai wr b (j*4+0) (.int .i64 (-7))) (by simp;omega);simp only [Nat.add_zero] at cu fu HS2 HC2;clear hw hs HS HC;go_wp2;exact ⟨⟨j+1,by omega,by go_num,HS2,HC2⟩,by simp [intOf];omega⟩
      ·obtain rfl:n3=j:=by omega
       go_wp2
       go_end0
       exact ⟨rfl,HS.out⟩
theorem spoilRegistry_any (B:Nat) (v:Value) (w:World) (h:SpReg B w v) (hB:B≤w.heap.size) :
  Calls Tryz.prog 34 #[v] w fun e w'=>e=.returned (.tuple #[])∧Spl B w w':=by
 have HSM:Hid (∀ v W,SpMod B W v→Spl B w W→Calls Tryz.prog 35 #[v] W fun e w'=>e=.returned (.tuple #[])∧Spl B W w'):=fun v W hm hs=>spoilModule_any B v W hm (Nat.le_trans hB hs.below.size);obtain ⟨k0,k1,ve,vl,le,n,rfl,h1,h2⟩:=h;obtain ⟨a1,n1,c1,rfl⟩:∃ a n c,ve=.slice a n c:=by obtain ⟨_,a,c,e,_⟩:=h1;exact ⟨a,_,c,e⟩
 obtain ⟨a2,n2,c2,rfl⟩:∃ a n c,vl=.slice a n c:=by obtain ⟨_,a,c,e,_⟩:=h2;exact ⟨a,_,c,e⟩
 have hl1:=h1.1;obtain ⟨rfl,H1⟩:=h1.spotS;obtain ⟨rfl,hl2,H2⟩:=h2.spot;have HX1:Hid _:=H1;have HX2:Hid _:=H2;clear h1 h2 H1 H2;have HS0:Hid (Spl B w (w.alloc (.cells #[k0,k1,.slice a1 n1 c1,.slice a2 n2 c2] 27))):=Spl.of_below ((Below.refl _ _).alloc (Nat.le_refl _) _) hB;have C0:Za (w.alloc (.cells #[k0,k1,.slice a1 n1 c1,.slice a2 n2 c2] 27)) w.heap.size 27 #[k0,k1,.slice a1 n1 c1,.slice a2 n2 c2]:=Za.new _ _ _;have HE0:Hid ((w.alloc (.cells #[k0,k1,.slice a1 n1 c1,.slice a2 n2 c2] 27)).cell? ⟨w.heap.size,2,none⟩=some (.slice a1 n1 c1)∧(w.alloc (.cells #[k0,k1,.slice a1 n1 c1,.slice a2 n2 c2] 27)).cell? ⟨w.heap.size,3,none⟩=some (.slice a2 n2 c2)):=And.intro (C0.cell 2) (C0.cell 3);clear C0
 go_enter Tryz.func34,Tryz.ntmps34
 go_wp2_with fail;generalize w.alloc (.cells #[k0,k1,.slice a1 n1 c1,.slice a2 n2 c2] 27)=wA at *
 go_loopw [2] (fun i wr=>∃ (j:Nat),j≤n1∧i=.int .i64 j∧Hid (Spl B w wr)∧Hid (wr.cell? ⟨w.heap.size,2,none⟩=some (.slice a1 n1 c1)∧wr.cell? ⟨w.heap.size,3,none⟩=some (.slice a2 n2 c2))) (fun i _=>n1-(intOf i).toNat)
 case atStart=>exact ⟨0,Nat.zero_le _,rfl,HS0,HE0⟩
 case round=>
  clear HS0 HE0;obtain ⟨j,hj,rfl,HS,HE⟩:=hrel;obtain ⟨e2,e3⟩:=HE.out
  by_cases hlt:j<n1
  ·obtain ⟨b,rfl,hbw,hw⟩:=HX1.out j hlt
   obtain ⟨u,cu,fu,hs⟩:=hw wr HS.out;have HS2:Hid _:=hs ⟨#[63]⟩;have HE2:Hid ((wr.setCell ⟨b,j*2+0,none⟩ (.string ⟨#[63]⟩)).cell? ⟨w.heap.size,2,none⟩=some (.slice (some ⟨b,0,none⟩) n1 c1)∧(wr.setCell ⟨b,j*2+0,none⟩ (.string ⟨#[63]⟩)).cell? ⟨w.heap.size,3,none⟩=some (.slice a2 n2 c2)):=by
    have hk:∀ o,(wr.setCell ⟨b,j*2+0,none⟩ (.string ⟨#[63]⟩)).cell? ⟨w.heap.size,o,none⟩=wr.cell? ⟨w.heap.size,o,none⟩:=fun o=>World.cell?_of_block (Below.heap_setCell _ _ _ _ (by simp;omega));exact ⟨(hk 2).trans e2,(hk 3).trans e3⟩
   simp only [Nat.add_zero] at cu fu HS2 HE2;clear hw hs HS HE;go_wp2;exact ⟨⟨j+1,by omega,by go_num,HS2,HE2⟩,by simp [intOf];omega⟩
  ·obtain rfl:n1=j:=by omega
   have HS0:=HS;have HE0:=HE;clear HS HE;go_wp2_with fail;clear e2 e3
   go_loopw [3] (fun i wr=>∃ (j:Nat),j≤n2∧i=.int .i64 j∧Hid (Spl B w wr)∧Hid (wr.cell? ⟨w.heap.size,2,none⟩=some (.slice a1 n1 c1)∧wr.cell? ⟨w.heap.size,3,none⟩=some (.slice a2 n2 c2))) (fun i _=>n2-(intOf i).toNat)
   case atStart=>exact ⟨0,Nat.zero_le _,rfl,HS0,HE0⟩
   case round=>
    clear HS0 HE0;obtain ⟨j,hj,rfl,HS,HE⟩:=hrel
    by_cases hlt:j<n2
    ·obtain ⟨b,rfl,hw⟩:=HX2.out j hlt
     obtain ⟨u0,u1,u2,u3,ve,vi,vp,f,d0,d1,d2,d3,d4,d5,d6,_,_,hm,_⟩:=hw wr HS.out;have HM:Hid _:=hm;have HW:Hid _:=hw;clear hm hw;obtain ⟨e2,e3⟩:=HE.out;go_wp2_with fail;refine (HSM.out _ _ HM.out HS.out).mono ?_;rintro e w2 ⟨rfl,s2⟩;have HS1:Hid (Spl B w w2):=HS.out.trans s2;have HE1:Hid (w2.cell? ⟨w.heap.size,2,none⟩=some (.slice a1 n1 c1)∧w2.cell? ⟨w.heap.size,3,none⟩=some (.slice (some ⟨b,0,none⟩) n2 c2)):=⟨s2.slice e2,s2.slice e3⟩;clear s2 HS HE HM d0 d1 d2 d3 d4 d5 d6 e2 e3;obtain ⟨u0,u1,u2,u3,ve,vi,vp,f,-,-,-,-,-,-,-,d7,f7,_,hset⟩:=HW.out w2 HS1.out;obtain ⟨e2,e3⟩:=HE1.out;have HS2:Hid _:=HS1.out.trans (hset (-7));have HE2:Hid _:=And.intro ((hset (-7)).slice e2) ((hset (-7)).slice e3);clear hset HS1 HE1 HW;go_wp2;exact ⟨⟨j+1,by omega,by go_num,HS2,HE2⟩,by simp [intOf];omega⟩
    ·obtain rfl:n2=j:=by omega
     obtain ⟨e2,e3⟩:=HE.out;go_wp2
     go_end0
     exact ⟨rfl,HS.out⟩
theorem rdTimes_mem {α:Type} {f:(Nat × Bool)→α × (Nat × Bool)} {p:α→Prop} (hf:∀ σ,p (f σ).1) (q:List α × (Nat × Bool)) (hq:∀ x∈q.1,p x):∀ k,∀ x∈(ZaR f k q).1,p x
 | 0=>hq
 | k+1=>by
  have ih:=rdTimes_mem hf q hq k
  show ∀ x∈(rdStep f (ZaR f k q)).1,p x
  unfold rdStep
  split
  ·exact ih
  ·intro x hx
   rcases List.mem_append.1 hx with hx | hx
   ·exact ih x hx
   ·obtain rfl:x=_:=by simpa using hx
    exact hf _
theorem rdMod_fits (c:Bool) (s:ByteArray) (σ:(Nat × Bool)):(rdMod c s σ).1.fits:=by
 refine ⟨?_,?_,?_,?_⟩
 ·exact Nat.le_trans (rdName_size c s σ) (by decide)
 ·have h1:=rdPiece_size c s (rdNum c s 2 (rdNum c s 1 (rdNum c s 1 (Zaf c s σ).2).2).2).1.toNat (rdNum c s 2 (rdNum c s 1 (rdNum c s 1 (Zaf c s σ).2).2).2).2
  have h2:=rdNum_bd c s 2 (rdNum c s 1 (rdNum c s 1 (Zaf c s σ).2).2).2
  show (ZaH c s (rdNum c s 2 (rdNum c s 1 (rdNum c s 1 (Zaf c s σ).2).2).2).1.toNat (rdNum c s 2 (rdNum c s 1 (rdNum c s 1 (Zaf c s σ).2).2).2).2).1.size≤_
  omega
 ·refine rdTimes_mem (p:=fun e:Exp=>e.name.size≤9223372036854775807) (fun σ=>?_) _ (by simp) _
  exact Nat.le_trans (rdName_size c s σ) (by decide)
 ·refine rdTimes_mem (p:=Imp.fits) (fun σ=>?_) _ (by simp) _
  exact ⟨Nat.le_trans (rdName_size c s σ) (by decide),Nat.le_trans (rdName_size c s _) (by decide)⟩
theorem readAll_any (R:Nat) (s:ByteArray) (σ:(Nat × Bool)) (w:World) (h:RdAt 124 w R s σ) :
  Calls Tryz.prog 85 #[.pointer (some ⟨R,0,none⟩)] w fun e w'=>e=.returned (.bool (!σ.2 && ((σ.1:Int) == s.size)))∧Below w.heap.size w w':=by
 obtain ⟨c0,c1,c2,f1,f2⟩:=h.parts;clear h;obtain ⟨a,b⟩:=σ;dsimp only at c1 c2 ⊢
 cases b with
 | true=>
  go_enter Tryz.func85,Tryz.ntmps85
  go_wp2
  go_quiet (fail)
  go_wp2;go_ret;exact ⟨rfl,below_drewN (Below.refl _ _) _⟩
 | false=>
  go_enter Tryz.func85,Tryz.ntmps85
  go_wp2
  go_quiet (fail)
  go_wp2;go_ret;exact ⟨rfl,below_drewN (Below.refl _ _) _⟩
def zeroMod:Mod:=⟨⟨#[]⟩,0,0,⟨#[]⟩,[],[],[]⟩
def told (s:ByteArray) (p:Mod × (Nat × Bool)):Mod × Int:=if (!p.2.2 && ((p.2.1:Int) == s.size))=true then (if Zac p.1=0 then (p.1,0) else (zeroMod,Zac p.1)) else (zeroMod,1)
theorem zero_owns (n:Nat) (W:World):Zbr n W (.agg #[.string ⟨#[]⟩,.int .i64 0,.int .i64 0,.string ⟨#[]⟩,.slice none 0 0,.slice none 0 0,.slice none 0 0]) zeroMod:=
 ⟨_,_,_,rfl,⟨⟨rfl,.inl ⟨rfl,rfl⟩⟩,⟨rfl,.inl ⟨rfl,rfl⟩⟩,⟨rfl,.inl ⟨rfl,rfl⟩⟩⟩,by decide,by decide,by decide⟩
theorem decode_any (s:ByteArray) (w:World) (hs:s.size≤140737488351232) :
  Calls Tryz.prog 31 #[.string s] w fun e w'=>∃ v,e=.returned (.tuple #[v,.int .i64 (told s (rdMod false s (0,false))).2])∧Zbr w.heap.size w' v (told s (rdMod false s (0,false))).1∧Below w.heap.size w w':=by
 have H1:Hid (∀ W R,RdAt 124 W R s (0,false)→Calls Tryz.prog 84 #[.pointer (some ⟨R,0,none⟩)] W fun e w'=>∃ v,e=.returned v∧Zbr W.heap.size w' v (rdMod false s (0,false)).1∧RdAt 124 w' R s (rdMod false s (0,false)).2∧W.grownBy w' (some R)):=fun W R h=>rmodule_any R s _ W h hs (Nat.zero_le _);have HF:Hid ((rdMod false s (0,false)).1.fits):=rdMod_fits _ _ _;generalize rdMod false s (0,false)=p at *;obtain ⟨M,σ⟩:=p;dsimp only at H1 HF;clear hs;have HW:Hid (∃ w1,w1=((w.alloc (.cells #[.string ⟨#[]⟩,.int .i64 0,.int .i64 0,.string ⟨#[]⟩,.slice none 0 0,.slice none 0 0,.slice none 0 0] 31)).alloc (.cells #[.string s,.int .i64 0,.bool false] 124))∧Below w.heap.size w w1∧RdAt 124 w1 (w.heap.size+1) s (0,false)∧Za w1 w.heap.size 31 #[.string ⟨#[]⟩,.int .i64 0,.int .i64 0,.string ⟨#[]⟩,.slice none 0 0,.slice none 0 0,.slice none 0 0]∧w1.heap.size=w.heap.size+2):=by
  have hz:(w.alloc (.cells #[.string ⟨#[]⟩,.int .i64 0,.int .i64 0,.string ⟨#[]⟩,.slice none 0 0,.slice none 0 0,.slice none 0 0] 31)).heap.size=w.heap.size+1:=by simp
  have g2:=World.grownBy_alloc (w.alloc (.cells #[.string ⟨#[]⟩,.int .i64 0,.int .i64 0,.string ⟨#[]⟩,.slice none 0 0,.slice none 0 0,.slice none 0 0] 31)) (.cells #[.string s,.int .i64 0,.bool false] 124) none;refine ⟨_,rfl,((Below.refl _ _).alloc (Nat.le_refl _) _).alloc (by simp) _,?_,(Za.new w _ _).kept g2 (by simp),by simp⟩
  have:=Za.new (w.alloc (.cells #[.string ⟨#[]⟩,.int .i64 0,.int .i64 0,.string ⟨#[]⟩,.slice none 0 0,.slice none 0 0,.slice none 0 0] 31)) 124 #[.string s,.int .i64 0,.bool false]
  rwa [hz] at this
 go_enter Tryz.func31,Tryz.ntmps31
 go_wp2_with fail;obtain ⟨w1,hw1,B1,hrd1,ho1,hz1⟩:=HW.out;rw [← hw1];clear hw1 HW;refine (H1.out _ _ hrd1).mono ?_;rintro e w2 ⟨v,rfl,hM,hrd2,hg2⟩;have ho2:=ho1.kept hg2 (fun e=>by have:=Option.some.inj e;omega);have B2:Below w.heap.size w w2:=B1.trans ⟨hg2.os,hg2.tape,hg2.output,hg2.size,fun k hk=>hg2.block k (by omega) (fun e=>by have:=Option.some.inj e;omega)⟩;have hz2:=hg2.size;obtain ⟨pe,ke,pi,ki,pp,kp,rfl⟩:=hM.form;have g3:=World.grownBy_alloc w2 (.cells #[.string M.name,.int .i64 M.major,.int .i64 M.minor,.string M.text,.slice pe M.exps.length ke,.slice pi M.imps.length ki,.slice pp M.pats.length kp] 31) none;have HRD3:Hid (RdAt 124 (w2.alloc (.cells #[.string M.name,.int .i64 M.major,.int .i64 M.minor,.string M.text,.slice pe M.exps.length ke,.slice pi M.imps.length ki,.slice pp M.pats.length kp] 31)) (w.heap.size+1) s σ):=Za.kept hrd2 g3 (by simp);have HO3:Hid (Za (w2.alloc (.cells #[.string M.name,.int .i64 M.major,.int .i64 M.minor,.string M.text,.slice pe M.exps.length ke,.slice pi M.imps.length ki,.slice pp M.pats.length kp] 31)) w.heap.size 31 #[.string ⟨#[]⟩,.int .i64 0,.int .i64 0,.string ⟨#[]⟩,.slice none 0 0,.slice none 0 0,.slice none 0 0]):=Za.kept ho2 g3 (by simp);have HM3:Hid (Za (w2.alloc (.cells #[.string M.name,.int .i64 M.major,.int .i64 M.minor,.string M.text,.slice pe M.exps.length ke,.slice pi M.imps.length ki,.slice pp M.pats.length kp] 31)) w2.heap.size 31 #[.string M.name,.int .i64 M.major,.int .i64 M.minor,.string M.text,.slice pe M.exps.length ke,.slice pi M.imps.length ki,.slice pp M.pats.length kp]):=Za.new w2 _ _;have HI3:Hid (Below w2.heap.size w2 (w2.alloc (.cells #[.string M.name,.int .i64 M.major,.int .i64 M.minor,.string M.text,.slice pe M.exps.length ke,.slice pi M.imps.length ki,.slice pp M.pats.length kp] 31))):=(Below.refl _ _).alloc (Nat.le_refl _) _;have HIM:Hid (Zbr w1.heap.size w2 (.agg #[.string M.name,.int .i64 M.major,.int .i64 M.minor,.string M.text,.slice pe M.exps.length ke,.slice pi M.imps.length ki,.slice pp M.pats.length kp]) M):=hM;clear hM hrd1 hrd2 hg2 ho1 ho2 B1 H1 g3;go_wp2_with fail;refine (readAll_any _ _ _ _ HRD3.out).mono ?_;rintro e w4 ⟨rfl,b4⟩;have B4:Below w2.heap.size w2 w4:=HI3.out.trans (b4.mono HI3.out.size);have hz4:=b4.size;have ho4:Za w4 w.heap.size 31 #[.string ⟨#[]⟩,.int .i64 0,.int .i64 0,.string ⟨#[]⟩,.slice none 0 0,.slice none 0 0,.slice none 0 0]:=Za.below HO3.out b4 (by simp;omega);have hm4:Za w4 w2.heap.size 31 #[.string M.name,.int .i64 M.major,.int .i64 M.minor,.string M.text,.slice pe M.exps.length ke,.slice pi M.imps.length ki,.slice pp M.pats.length kp]:=Za.below HM3.out b4 (by simp);have hI4:Zbr w1.heap.size w4 (.agg #[.string M.name,.int .i64 M.major,.int .i64 M.minor,.string M.text,.slice pe M.exps.length ke,.slice pi M.imps.length ki,.slice pp M.pats.length kp]) M:=HIM.out.below B4;have B04:Below w.heap.size w w4:=B2.trans (B4.mono (by omega));rw [World.size_alloc] at hz4;clear HRD3 HO3 HM3 HI3 HIM b4 B4 B2
 cases hok:(!σ.2 && ((σ.1:Int) == s.size)) with
 | false=>
  have HT:Hid (told s (M,σ)=(zeroMod,1)):=by
   show told s (M,σ)=_
   unfold told;rw [if_neg (by dsimp only;rw [hok];simp)]
  obtain ⟨p0,p1,p2,p3,p4,p5,p6⟩:=box7 ho4;have f:=ho4.frozen;have HFz:Hid (Za _ w.heap.size 31 _):=sets7 ho4 (.string ⟨#[]⟩) (.int .i64 0) (.int .i64 0) (.string ⟨#[]⟩) (.slice none 0 0) (.slice none 0 0) (.slice none 0 0);have HGz:Hid (w4.grownBy _ (some w.heap.size)):=ZaX w4 w.heap.size (.string ⟨#[]⟩) (.int .i64 0) (.int .i64 0) (.string ⟨#[]⟩) (.slice none 0 0) (.slice none 0 0) (.slice none 0 0);clear ho4 hm4 hI4 HF hok;go_wp2;clear p0 p1 p2 p3 p4 p5 p6 f;have hF:=HFz.out;have hG:=HGz.out;clear HFz HGz;generalize World.setCell _ ⟨w.heap.size,6,none⟩ _=w5 at hF hG ⊢
  (try simp only [Exit.inBlock,Exit.then])
  refine bodyPost_ret (Zab rfl _ _ _ _ _ _ _ rfl hF Tryz.underlying31 rfl (by kernel_rfl)) rfl ?_;rw [HT.out];refine ⟨_,rfl,zero_owns _ _,?_⟩;exact B04.trans ⟨hG.os,hG.tape,hG.output,hG.size,fun k hk=>hG.block k (by omega) (fun e=>by have:=Option.some.inj e;omega)⟩
 | true=>
  have hmz:=hm4.lt;have HO4:Hid (Za w4 w.heap.size 31 #[.string ⟨#[]⟩,.int .i64 0,.int .i64 0,.string ⟨#[]⟩,.slice none 0 0,.slice none 0 0,.slice none 0 0]):=ho4;have HM4:Hid (Za w4 w2.heap.size 31 #[.string M.name,.int .i64 M.major,.int .i64 M.minor,.string M.text,.slice pe M.exps.length ke,.slice pi M.imps.length ki,.slice pp M.pats.length kp]):=hm4;have HI4:Hid (Zbr w1.heap.size w4 (.agg #[.string M.name,.int .i64 M.major,.int .i64 M.minor,.string M.text,.slice pe M.exps.length ke,.slice pi M.imps.length ki,.slice pp M.pats.length kp]) M):=hI4;have HC:Hid (Calls Tryz.prog 64 #[.agg #[.string M.name,.int .i64 M.major,.int .i64 M.minor,.string M.text,.slice pe M.exps.length ke,.slice pi M.imps.length ki,.slice pp M.pats.length kp]] w4 fun e w'=>e=.returned (.int .i64 (Zac M))∧Below w4.heap.size w4 w'):=check_any M _ w4 hI4.isMod HF.out;obtain ⟨q0,q1,q2,q3,q4,q5,q6⟩:=box7 hm4
  by_cases h0:Zac M=0
  ·have HT:Hid (told s (M,σ)=(M,0)):=by
    show told s (M,σ)=_
    unfold told;rw [if_pos hok,if_pos h0]
   rw [h0] at HC;clear h0 hok ho4 hm4 hI4;go_wp2_with fail;clear q0 q1 q2 q3 q4 q5 q6;refine (HC.out).mono ?_;rintro e w5 ⟨rfl,b5⟩;have hz5:=b5.size;have ho5:Za w5 w.heap.size 31 #[.string ⟨#[]⟩,.int .i64 0,.int .i64 0,.string ⟨#[]⟩,.slice none 0 0,.slice none 0 0,.slice none 0 0]:=Za.below HO4.out b5 (by omega);have hm5:Za w5 w2.heap.size 31 #[.string M.name,.int .i64 M.major,.int .i64 M.minor,.string M.text,.slice pe M.exps.length ke,.slice pi M.imps.length ki,.slice pp M.pats.length kp]:=Za.below HM4.out b5 (by omega);have hI5:Hid (Zbr w1.heap.size w5 (.agg #[.string M.name,.int .i64 M.major,.int .i64 M.minor,.string M.text,.slice pe M.exps.length ke,.slice pi M.imps.length ki,.slice pp M.pats.length kp]) M):=HI4.out.below b5;have B5:Below w.heap.size w w5:=B04.trans (b5.mono (by omega));obtain ⟨p0,p1,p2,p3,p4,p5,p6⟩:=box7 ho5;obtain ⟨q0,q1,q2,q3,q4,q5,q6⟩:=box7 hm5;have f:=ho5.frozen;have HFz:Hid (Za _ w.heap.size 31 _):=sets7 ho5 (.string M.name) (.int .i64 M.major) (.int .i64 M.minor) (.string M.text) (.slice pe M.exps.length ke) (.slice pi M.imps.length ki) (.slice pp M.pats.length kp);have HGz:Hid (w5.grownBy _ (some w.heap.size)):=ZaX w5 w.heap.size (.string M.name) (.int .i64 M.major) (.int .i64 M.minor) (.string M.text) (.slice pe M.exps.length ke) (.slice pi M.imps.length ki) (.slice pp M.pats.length kp);clear ho5 hm5;go_wp2;clear p0 p1 p2 p3 p4 p5 p6 q0 q1 q2 q3 q4 q5 q6 f;have hF:=HFz.out;have hG:=HGz.out;clear HFz HGz;generalize World.setCell _ ⟨w.heap.size,6,none⟩ _=w6 at hF hG ⊢
   (try simp only [Exit.inBlock,Exit.then])
   refine bodyPost_ret (Zab rfl _ _ _ _ _ _ _ rfl hF Tryz.underlying31 rfl (by kernel_rfl)) rfl ?_;rw [HT.out];have hIM5:=(hI5.out.grown hG (fun k e=>by have:=Option.some.inj e;omega)).less (show w.heap.size≤w1.heap.size by omega);refine ⟨_,rfl,hIM5,?_⟩;exact B5.trans ⟨hG.os,hG.tape,hG.output,hG.size,fun k hk=>hG.block k (by omega) (fun e=>by have:=Option.some.inj e;omega)⟩
  ·have HT:Hid (told s (M,σ)=(zeroMod,Zac M)):=by
    show told s (M,σ)=_
    unfold told;rw [if_pos hok,if_neg h0]
   have hne:(Zac M != 0)=true:=by simpa using h0
   clear h0 hok ho4 hm4 hI4;go_wp2_with fail;clear q0 q1 q2 q3 q4 q5 q6;refine (HC.out).mono ?_;rintro e w5 ⟨rfl,b5⟩;have hz5:=b5.size;have ho5:Za w5 w.heap.size 31 #[.string ⟨#[]⟩,.int .i64 0,.int .i64 0,.string ⟨#[]⟩,.slice none 0 0,.slice none 0 0,.slice none 0 0]:=Za.below HO4.out b5 (by omega);have hm5:Za w5 w2.heap.size 31 #[.string M.name,.int .i64 M.major,.int .i64 M.minor,.string M.text,.slice pe M.exps.length ke,.slice pi M.imps.length ki,.slice pp M.pats.length kp]:=Za.below HM4.out b5 (by omega);have hI5:Hid (Zbr w1.heap.size w5 (.agg #[.string M.name,.int .i64 M.major,.int .i64 M.minor,.string M.text,.slice pe M.exps.length ke,.slice pi M.imps.length ki,.slice pp M.pats.length kp]) M):=HI4.out.below b5;have B5:Below w.heap.size w w5:=B04.trans (b5.mono (by omega));obtain ⟨p0,p1,p2,p3,p4,p5,p6⟩:=box7 ho5;obtain ⟨q0,q1,q2,q3,q4,q5,q6⟩:=box7 hm5;have f:=ho5.frozen;have HFz:Hid (Za _ w.heap.size 31 _):=sets7 ho5 (.string ⟨#[]⟩) (.int .i64 0) (.int .i64 0) (.string ⟨#[]⟩) (.slice none 0 0) (.slice none 0 0) (.slice none 0 0);have HGz:Hid (w5.grownBy _ (some w.heap.size)):=ZaX w5 w.heap.size (.string ⟨#[]⟩) (.int .i64 0) (.int .i64 0) (.string ⟨#[]⟩) (.slice none 0 0) (.slice none 0 0) (.slice none 0 0);clear ho5 hm5;go_wp2;clear p0 p1 p2 p3 p4 p5 p6 q0 q1 q2 q3 q4 q5 q6 f;have hF:=HFz.out;have hG:=HGz.out;clear HFz HGz;generalize World.setCell _ ⟨w.heap.size,6,none⟩ _=w6 at hF hG ⊢
   (try simp only [Exit.inBlock,Exit.then])
   refine bodyPost_ret (Zab rfl _ _ _ _ _ _ _ rfl hF Tryz.underlying31 rfl (by kernel_rfl)) rfl ?_;rw [HT.out];refine ⟨_,rfl,zero_owns _ _,?_⟩;exact B5.trans ⟨hG.os,hG.tape,hG.output,hG.size,fun k hk=>hG.block k (by omega) (fun e=>by have:=Option.some.inj e;omega)⟩
theorem bt_extract (s:ByteArray) (a b i:Nat) (hi:i<b-a):bt (s.extract a b) i=bt s (a+i):=by
 rw [bt_list,bt_list]
 have:(s.extract a b).data.toList=(s.data.toList.drop a).take (b-a):=by
  rw [ByteArray.data_extract,Array.toList_extract,List.extract_eq_take_drop]
 rw [this,List.getElem?_take_of_lt hi,List.getElem?_drop]

end Go.Proofs.YtlpnfbpgnfappaaGreat
namespace Go.Proofs.YtlpnfbpgnfappaaGreat
end Go.Proofs.YtlpnfbpgnfappaaGreat
namespace Go.Proofs.YtlpnfbpgnfappaaGreat
open Go.RowKit Go.PlainAid
def ZbP (s:ByteArray) (a:Nat) (l:List UInt8):Prop:=∀ i,i<l.length→s.data.toList[a+i]?=l[i]?
theorem ZbP.append {s:ByteArray} {a:Nat} {l m:List UInt8}:ZbP s a (l++m)↔ZbP s a l∧ZbP s (a+l.length) m:=by
 constructor
 ·intro h
  refine ⟨fun i hi=>?_,fun i hi=>?_⟩
  ·rw [h i (by rw [List.length_append];omega),List.getElem?_append_left hi]
  ·have:=h (l.length+i) (by rw [List.length_append];omega)
   rw [List.getElem?_append_right (by omega),show l.length+i-l.length=i by omega] at this;rw [Nat.add_assoc];exact this
 ·rintro ⟨h1,h2⟩ i hi
  rw [List.length_append] at hi
  by_cases hl:i<l.length
  ·rw [List.getElem?_append_left hl];exact h1 i hl
  ·rw [List.getElem?_append_right (by omega)]
   have:=h2 (i-l.length) (by omega)
   rwa [show a+l.length+(i-l.length)=a+i by omega] at this
theorem ZbP.nil (s:ByteArray) (a:Nat):ZbP s a []:=fun i hi=>by simp at hi
theorem ZbP.le {s:ByteArray} {a:Nat} {l:List UInt8} (h:ZbP s a l) (hl:0<l.length):a+l.length≤s.size:=by
 have:=h (l.length-1) (by omega)
 rw [List.getElem?_eq_getElem (l:=l) (by omega)] at this;have hlt:=(List.getElem?_eq_some_iff.1 this).1;have e:s.data.toList.length=s.size:=by simp
 omega
theorem ZbP.bt {s:ByteArray} {a:Nat} {l:List UInt8} (h:ZbP s a l) {i:Nat} {x:UInt8} (hx:l[i]?=some x):bt s (a+i)=x.toNat:=by
 rw [bt_list,h i (List.getElem?_eq_some_iff.1 hx).1,hx]
theorem numsBytes_two (m:Nat) (a b:Int):Zad m [a,b]=Zad m [a]++Zad m [b]:=by simp [Zad]
theorem Zcf (c:Bool) (s:ByteArray) (a m:Nat) (hm:m=1∨m=2) (n:Int) (h:ZbP s a (Zad m [n])) (h0:0≤n) (h1:n<256 ^ m):rdNum c s m (a,false)=(n,(a+m,false)):=by
 have hl:(Zad m [n]).length=m:=by rw [Zah];simp
 have hle:=h.le (by omega);rw [hl] at hle;unfold rdNum;rw [if_neg (by simp;omega)]
 have:getN s a m=n:=by
  rcases hm with rfl | rfl
  ·rw [getN_1]
   have b0:=h.bt (i:=0) (x:=byteOf n 0) rfl;rw [Nat.add_zero,byteOf_toNat] at b0;rw [b0];simp;omega
  ·rw [getN_2]
   have b0:=h.bt (i:=0) (x:=byteOf n 0) rfl;have b1:=h.bt (i:=1) (x:=byteOf n 1) rfl;rw [Nat.add_zero,byteOf_toNat] at b0;rw [byteOf_toNat] at b1;rw [b0,b1];simp;omega
 rw [this]
theorem rdPiece_of (c:Bool) (s:ByteArray) (a:Nat) (t:ByteArray) (h:ZbP s a t.data.toList) (ha:a≤s.size):ZaH c s t.size (a,false)=(t,(a+t.size,false)):=by
 have hl:t.data.toList.length=t.size:=by simp
 have hle:a+t.size≤s.size:=by
  by_cases h0:t.size=0
  ·omega
  ·have:=h.le (by omega)
   omega
 unfold ZaH;rw [if_neg (by simp;omega)]
 have:s.extract a (a+t.size)=t:=by
  refine ba_ext (by rw [ByteArray.size_extract];omega) (fun i hi=>?_);rw [ByteArray.size_extract] at hi;rw [bt_extract s a _ i (by omega),bt_list,h i (by omega),bt_list]
 rw [this]
theorem rdName_of (c:Bool) (s:ByteArray) (a:Nat) (t:ByteArray) (h:ZbP s a (nameB t)) (ht:t.size≤255):Zaf c s (a,false)=(t,(a+(nameB t).length,false)):=by
 obtain ⟨h1,h2⟩:=ZbP.append.1 h;have e1:=Zcf c s a 1 (.inl rfl) t.size h1 (by omega) (by omega);have hl:(Zad 1 [(t.size:Int)]).length=1:=rfl;have hle:=h1.le (by rw [hl];omega);rw [hl] at hle h2
 show ZaH c s (rdNum c s 1 (a,false)).1.toNat (rdNum c s 1 (a,false)).2=_
 rw [e1]
 show ZaH c s ((t.size:Int)).toNat (a+1,false)=_
 rw [Int.toNat_natCast,rdPiece_of c s (a+1) t h2 hle,ZaI,Nat.add_assoc]
theorem rdExp_of (c:Bool) (s:ByteArray) (a:Nat) (e:Exp) (h:ZbP s a (expB e)) (h1:e.name.size≤255) (h2:0≤e.pos∧e.pos<65536):rdExp c s (a,false)=(e,(a+(expB e).length,false)):=by
 obtain ⟨x1,x2⟩:=ZbP.append.1 h;have e1:=rdName_of c s a e.name x1 h1;have e2:=Zcf c s _ 2 (.inr rfl) e.pos x2 h2.1 (by simpa using h2.2)
 show ((⟨(Zaf c s (a,false)).1,(rdNum c s 2 (Zaf c s (a,false)).2).1⟩:Exp),(rdNum c s 2 (Zaf c s (a,false)).2).2)=_
 rw [e1];dsimp only;rw [e2,expB_length,ZaI,show a+(1+e.name.size)+2=a+(3+e.name.size) by omega]
theorem rdImp_of (c:Bool) (s:ByteArray) (a:Nat) (e:Imp) (h:ZbP s a (impB e)) (h1:e.mod.size≤255) (h2:e.name.size≤255) (h3:0≤e.major∧e.major<256) (h4:0≤e.minor∧e.minor<256):rdImp c s (a,false)=(e,(a+(impB e).length,false)):=by
 obtain ⟨x12,x3⟩:=ZbP.append.1 h;obtain ⟨x1,x2⟩:=ZbP.append.1 x12;rw [numsBytes_two] at x3;obtain ⟨x3,x4⟩:=ZbP.append.1 x3;have e1:=rdName_of c s a e.mod x1 h1;have e2:=rdName_of c s _ e.name x2 h2;rw [List.length_append,← Nat.add_assoc] at x3 x4;have e3:=Zcf c s _ 1 (.inl rfl) e.major x3 h3.1 (by simpa using h3.2);have e4:=Zcf c s _ 1 (.inl rfl) e.minor x4 h4.1 (by simpa using h4.2);have hl:(Zad 1 [e.major]).length=1:=rfl;rw [hl] at e4
 show ((⟨(Zaf c s (a,false)).1,(Zaf c s (Zaf c s (a,false)).2).1,(rdNum c s 1 (Zaf c s (Zaf c s (a,false)).2).2).1,(rdNum c s 1 (rdNum c s 1 (Zaf c s (Zaf c s (a,false)).2).2).2).1⟩:Imp),(rdNum c s 1 (rdNum c s 1 (Zaf c s (Zaf c s (a,false)).2).2).2).2)=_
 rw [e1];dsimp only;rw [e2];dsimp only;rw [e3];dsimp only;rw [e4,impB_length,ZaI,ZaI,show a+(1+e.mod.size)+(1+e.name.size)+1+1=a+(4+e.mod.size+e.name.size) by omega]
theorem rdPat_of (c:Bool) (s:ByteArray) (a:Nat) (p:Pat) (h:ZbP s a (patB p)) (h1:0≤p.kind∧p.kind<256) (h2:0≤p.pos∧p.pos<65536) (h3:0≤p.sym+1∧p.sym+1<256) (h4:0≤p.add∧p.add<65536):rdPat c s (a,false)=(p,(a+(patB p).length,false)):=by
 obtain ⟨x123,x4⟩:=ZbP.append.1 h;obtain ⟨x12,x3⟩:=ZbP.append.1 x123;obtain ⟨x1,x2⟩:=ZbP.append.1 x12;have l1:(Zad 1 [p.kind]).length=1:=rfl;have l2:(Zad 1 [p.kind]++Zad 2 [p.pos]).length=3:=rfl;have l3:(Zad 1 [p.kind]++Zad 2 [p.pos]++Zad 1 [p.sym+1]).length=4:=rfl;rw [l1] at x2;rw [l2] at x3;rw [l3] at x4;have e1:=Zcf c s a 1 (.inl rfl) p.kind x1 h1.1 (by simpa using h1.2);have e2:=Zcf c s _ 2 (.inr rfl) p.pos x2 h2.1 (by simpa using h2.2);have e3:=Zcf c s _ 1 (.inl rfl) (p.sym+1) x3 h3.1 (by simpa using h3.2);have e4:=Zcf c s _ 2 (.inr rfl) p.add x4 h4.1 (by simpa using h4.2)
 show ((⟨(rdNum c s 1 (a,false)).1,(rdNum c s 2 (rdNum c s 1 (a,false)).2).1,(rdNum c s 1 (rdNum c s 2 (rdNum c s 1 (a,false)).2).2).1-1,(rdNum c s 2 (rdNum c s 1 (rdNum c s 2 (rdNum c s 1 (a,false)).2).2).2).1⟩:Pat),(rdNum c s 2 (rdNum c s 1 (rdNum c s 2 (rdNum c s 1 (a,false)).2).2).2).2)=_
 rw [e1];dsimp only;rw [show a+1+2=a+3 by omega] at e2;rw [e2];dsimp only;rw [show a+3+1=a+4 by omega] at e3;rw [e3];dsimp only;rw [e4,patB_length,Int.add_sub_cancel]
theorem rdTimes_of {α:Type} (s:ByteArray) (f:(Nat × Bool)→α × (Nat × Bool)) (B:α→List UInt8) (l:List α) (hf:∀ x∈l,∀ a,ZbP s a (B x)→f (a,false)=(x,(a+(B x).length,false))) (a:Nat) (h:ZbP s a (l.flatMap B)) :
  ∀ k,k≤l.length→ZaR f k ([],(a,false))=(l.take k,(a+((l.take k).flatMap B).length,false))
 | 0,_=>by simp [ZaR]
 | k+1,hk=>by
  have ih:=rdTimes_of s f B l hf a h k (by omega);obtain ⟨x,hx⟩:∃ x,l[k]?=some x:=⟨_,List.getElem?_eq_getElem (by omega)⟩;have hsp:l=l.take k++x::l.drop (k+1):=by rw [← drop_at hx,List.take_append_drop]
  have h2:ZbP s (a+((l.take k).flatMap B).length) (B x):=by
   rw [hsp,List.flatMap_append] at h;have h3:=(ZbP.append.1 h).2;rw [List.flatMap_cons] at h3;exact (ZbP.append.1 h3).1
  show rdStep f (ZaR f k ([],(a,false)))=_
  rw [ih,rdStep,if_neg (by simp),hf x (List.mem_of_getElem? hx) _ h2];dsimp only;rw [Zcb B l k x hx,List.length_append,Nat.add_assoc,List.take_add_one,hx]
  rfl
theorem rdMany_of {α:Type} (c:Bool) (s:ByteArray) (f:(Nat × Bool)→α × (Nat × Bool)) (B:α→List UInt8) (l:List α) (hl:l.length≤255) (hf:∀ x∈l,∀ a,ZbP s a (B x)→f (a,false)=(x,(a+(B x).length,false))) (a:Nat) (h:ZbP s a (Zad 1 [(l.length:Int)]++l.flatMap B)) :
  Zbw c s f (a,false)=(l,(a+(Zad 1 [(l.length:Int)]++l.flatMap B).length,false)):=by
 obtain ⟨h1,h2⟩:=ZbP.append.1 h;have e1:=Zcf c s a 1 (.inl rfl) l.length h1 (by omega) (by omega);have e2:=rdTimes_of s f B l hf (a+1) h2 l.length (Nat.le_refl _)
 show ZaR f (rdNum c s 1 (a,false)).1.toNat ([],(rdNum c s 1 (a,false)).2)=_
 rw [e1];dsimp only;rw [Int.toNat_natCast,e2,List.take_length,List.length_append,Nat.add_assoc]
 rfl
theorem width_kind {k:Int} (h:width k≠0):0≤k∧k<256:=by
 unfold width at h
 split at h
 ·omega
 ·split at h
  ·omega
  ·split at h
   ·omega
   ·exact absurd rfl h
theorem width_pos {k:Int} (h:width k≠0):0<width k:=by
 have:=width_bd k
 omega
theorem encL_form (M:Mod):encL M=nameB M.name++(Zad 1 [M.major]++(Zad 1 [M.minor]++(Zad 2 [(M.text.size:Int)]++(M.text.data.toList++((Zad 1 [(M.exps.length:Int)]++M.exps.flatMap expB)++((Zad 1 [(M.imps.length:Int)]++M.imps.flatMap impB)++(Zad 1 [(M.pats.length:Int)]++M.pats.flatMap patB))))))):=by
 unfold encL headB;rw [numsBytes_two];simp only [List.append_assoc]
theorem isVer_bd {a b:Int} (h:Zcg a b=true):(0≤a∧a<256)∧0≤b∧b<256:=by
 unfold Zcg at h;rw [Bool.and_eq_true,Zcv,Zcv] at h
 omega
theorem rdMod_of (c:Bool) (s:ByteArray) (M:Mod) (hM:Zac M=0) (h:ZbP s 0 (encL M)):rdMod c s (0,false)=(M,((encL M).length,false)):=by
 obtain ⟨m1,_,m3,m4,m5,m6,m7,m8,m9,m10,m11,m12⟩:=chkMod_zero hM;have v:=isVer_bd m3;rw [encL_form] at h ⊢;obtain ⟨x1,h⟩:=ZbP.append.1 h;obtain ⟨x2,h⟩:=ZbP.append.1 h;obtain ⟨x3,h⟩:=ZbP.append.1 h;obtain ⟨x4,h⟩:=ZbP.append.1 h;obtain ⟨x5,h⟩:=ZbP.append.1 h;obtain ⟨x6,h⟩:=ZbP.append.1 h;obtain ⟨x7,x8⟩:=ZbP.append.1 h;have hz4:(Zad 2 [(M.text.size:Int)]).length=2:=rfl;have hle:=x4.le (by rw [hz4];omega);have e1:=rdName_of c s 0 M.name x1 (by have:=isNm_size m1;omega);have e2:=Zcf c s _ 1 (.inl rfl) M.major x2 v.1.1 (by simpa using v.1.2);have e3:=Zcf c s _ 1 (.inl rfl) M.minor x3 v.2.1 (by simpa using v.2.2);have e4:=Zcf c s _ 2 (.inr rfl) M.text.size x4 (by omega) (by omega);have e5:=rdPiece_of c s _ M.text x5 hle;have e6:=rdMany_of c s (rdExp c s) expB M.exps (by omega) (fun e he a hl=>by
  have q:=chkExps_all _ _ _ m10 e he
  have:=isNm_size q.1
  exact rdExp_of c s a e hl (by omega) ⟨q.2.1,by omega⟩) _ x6
 have e7:=rdMany_of c s (rdImp c s) impB M.imps (by omega) (fun e he a hl=>by
  have q:=chkImps_all _ _ m11 e he;have q1:=isNm_size q.1;have q2:=isNm_size q.2.1;have q3:=isVer_bd q.2.2;exact rdImp_of c s a e hl (by omega) (by omega) q3.1 q3.2) _ x7
 have e8:=rdMany_of c s (rdPat c s) patB M.pats (by omega) (fun e he a hl=>by
  have q:=chkPats_all _ _ _ _ m12 e he;have q1:=width_kind q.1;have q2:=width_pos q.1;exact rdPat_of c s a e hl q1 (by omega) (by omega) (by omega)) _ x8
 have hz2:(Zad 1 [M.major]).length=1:=rfl;have hz3:(Zad 1 [M.minor]).length=1:=rfl;have hz5:M.text.data.toList.length=M.text.size:=by simp
 rw [hz2] at e3 e4 e5 e6 e7 e8;rw [hz3] at e4 e5 e6 e7 e8;rw [hz4] at e5 e6 e7 e8;rw [hz5] at e6 e7 e8;have key:∀ (N:ByteArray × (Nat × Bool)) (A B L:Int × (Nat × Bool)) (T:ByteArray × (Nat × Bool)) (E:List Exp × (Nat × Bool)) (I:List Imp × (Nat × Bool)) (P:List Pat × (Nat × Bool)),Zaf c s (0,false)=N→rdNum c s 1 N.2=A→rdNum c s 1 A.2=B→rdNum c s 2 B.2=L→ZaH c s L.1.toNat L.2=T→Zbw c s (rdExp c s) T.2=E→Zbw c s (rdImp c s) E.2=I→Zbw c s (rdPat c s) I.2=P→
   rdMod c s (0,false)=(⟨N.1,A.1,B.1,T.1,E.1,I.1,P.1⟩,P.2):=by
  rintro _ _ _ _ _ _ _ _ rfl rfl rfl rfl rfl rfl rfl rfl
  rfl
 have e5':ZaH c s ((M.text.size:Int)).toNat (0+(nameB M.name).length+1+1+2,false)=(M.text,(0+(nameB M.name).length+1+1+2+M.text.size,false)):=by rw [Int.toNat_natCast];exact e5
 rw [key _ _ _ _ _ _ _ _ e1 e2 e3 e4 e5' e6 e7 e8];simp only [List.length_append,hz2,hz3,hz4,hz5,Nat.zero_add,Nat.add_assoc]
theorem lie_self (l:List UInt8):ZbP (toBa l) 0 l:=fun i _=>by rw [Nat.zero_add];rfl
end Go.Proofs.YtlpnfbpgnfappaaGreat
