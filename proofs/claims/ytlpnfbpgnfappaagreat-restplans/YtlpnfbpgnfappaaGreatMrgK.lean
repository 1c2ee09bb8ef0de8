/- Texts that are laid together. -/
import Derived.Test.YtlpnfbpgnfappaaGreatMrgJ
import Derived.Test.YtlpnfbpgnfappaaGreatMrgH
import Derived.Test.YtlpnfbpgnfappaaGreatMrgI
import Derived.Test.YtlpnfbpgnfappaaGreatMrgE
import Derived.Test.YtlpnfbpgnfappaaGreatMrgC
import Derived.Deep.LoopGhost
import Derived.Test.YtlpnfbpgnfappaaGreatMrgB
import Derived.ProofKit
import Derived.OpenShut
import Derived.ShutString
import Derived.ChangeOld
import Derived.SizedLaws
import Derived.Below
import Derived.Carry
import Derived.Deep.Slices
set_option maxHeartbeats 256000000
set_option maxRecDepth 100000

namespace Go.Proofs.YtlpnfbpgnfappaaGreat
open Go.RowKit Go.PlainAid
theorem sameTexts_yes (l:List ByteArray) (v v':Value) (w:World) (h1:Zal 1 Zbn w.heap.size w v l) (h2:Zal 1 Zbn w.heap.size w v' l) :
  Calls Tryz.prog 75 #[v,v'] w fun e w'=>e=.returned (.bool true)∧Below w.heap.size w w':=by
 obtain ⟨a,cap,rfl,hz,h1⟩:=h1;obtain ⟨a',cap',rfl,_,h2⟩:=h2;have hne:((l.length:Int) != (l.length:Int))=false:=by simp
 go_enter Tryz.func75,Tryz.ntmps75
 go_wp2
 go_loopw [5] (fun i wr=>∃ (k:Nat),k≤l.length∧i=.int .i64 k∧Hid (∃ q,wr=w.drewN q)) (fun i _=>l.length-(intOf i).toNat)
 case atStart=>exact ⟨0,Nat.zero_le _,rfl,(⟨0,rfl⟩:∃ q,w=w.drewN q)⟩
 case round=>
  obtain ⟨k,hk,rfl,HQ⟩:=hrel
  by_cases hlt:k<l.length
  ·obtain ⟨p,hp⟩:∃ p,l[k]?=some p:=⟨_,List.getElem?_eq_getElem hlt⟩
   rcases h1 with h | ⟨b,off,rfl,hbn,hc⟩
   ·subst h;simp at hlt
   rcases h2 with h | ⟨b',off',rfl,hbn',hc'⟩
   ·subst h;simp at hlt
   have hcl:∀ p,wr.cell? p=w.cell? p:=fun p=>by obtain ⟨q,hq⟩:=HQ.out;rw [hq];simp
   have c0:=(hcl _).trans (hc k _ hp 0 (by omega));have d0:=(hcl _).trans (hc' k _ hp 0 (by omega));dsimp only [Zbn] at c0 d0;rw [Nat.add_zero,Nat.mul_one] at c0 d0;clear hcl hc hc' hp;go_wp2
   go_quiet (fail)
   go_wp2;obtain ⟨q,hq⟩:=HQ.out;exact ⟨⟨k+1,by omega,by go_num,(⟨q+_,by rw [hq,World.drewN_drewN]⟩:∃ q,_=w.drewN q)⟩,by simp [intOf];omega⟩
  ·go_wp2
   go_ret;obtain ⟨q,hq⟩:=HQ.out;exact ⟨rfl,by rw [hq];exact below_drewN (Below.refl _ _) q⟩
def appN:ByteArray:=⟨#[97,112,112]⟩
def libN:ByteArray:=⟨#[108,105,98]⟩
theorem chk_pairG:Zav pairL=0:=by kernel_rfl
theorem err_app:Zbz pairL appN=0:=by kernel_rfl
theorem err_lib:Zbz pairL libN=0:=by kernel_rfl
theorem next_need {i k:Nat}:Next ZbC [appM,libM] i k↔i=0∧k=1:=by
 have e00:ZbC appM appM=false:=by kernel_rfl
 have e01:ZbC appM libM=true:=by kernel_rfl
 have e1:∀ m,ZbC libM m=false:=fun m=>by rfl
 constructor
 ·rintro ⟨x,y,hx,hy,h⟩
  have hi:i=0∨i=1:=by have:=(List.getElem?_eq_some_iff.1 hx).1;simp at this;omega
  have hk:k=0∨k=1:=by have:=(List.getElem?_eq_some_iff.1 hy).1;simp at this;omega
  rcases hi with rfl | rfl
  ·rcases hk with rfl | rfl
   ·injection hx with hx
    injection hy with hy;subst hx hy;rw [e00] at h
    cases h
   ·exact ⟨rfl,rfl⟩
  ·injection hx with hx
   subst hx;rw [e1] at h
   cases h
 ·rintro ⟨rfl,rfl⟩
  exact ⟨appM,libM,rfl,rfl,e01⟩
theorem via_need {i k:Nat}:Via (Next ZbC [appM,libM]) i k↔i=0∧k=1:=by
 constructor
 ·intro h
  exact h.walk (M:=fun k=>i=0∧k=1) (fun _ e=>next_need.1 e) (fun _ _ _ ih e=>by have:=next_need.1 e;omega)
 ·exact fun h=>.one (next_need.2 h)
theorem name_pair {f:Nat} (hf:f<2):nameAt [appM,libM] f=if f=0 then appN else libN:=by
 have:f=0∨f=1:=by omega
 rcases this with rfl | rfl <;> rfl
theorem app_lib:appN≠libN:=by
 intro h
 have:=congrArg ByteArray.size h
 have h2:=congrArg (fun b:ByteArray=>b.data.toList) h;exact absurd h2 (by decide)
theorem come_app {ss:List ByteArray} (h:ZbW ZbC pairL appN ss):ss=[libN]:=by
 rcases h with ⟨h,_⟩ | ⟨_,f,hf,hn,hr,hm⟩
 ·exact absurd err_app h
 have hf2:f<2:=hf;rw [show pairL.map (·.mod)=[appM,libM] from rfl] at hn hm;rw [name_pair hf2] at hn;have h0:f=0:=by
  by_cases e:f=0
  ·exact e
  ·rw [if_neg e] at hn;exact absurd hn.symm app_lib
 subst h0;refine Rising.same hr (by simp [Rising]) (fun x=>?_);rw [hm]
 constructor
 ·rintro ⟨k,hk,rfl⟩
  obtain ⟨_,rfl⟩:=via_need.1 hk;simp [name_pair]
 ·intro hx
  obtain rfl:x=libN:=by simpa using hx
  exact ⟨1,via_need.2 ⟨rfl,rfl⟩,rfl⟩
theorem come_lib {ss:List ByteArray} (h:ZbW nxUse pairL libN ss):ss=[appN]:=by
 rcases h with ⟨h,_⟩ | ⟨_,f,hf,hn,hr,hm⟩
 ·exact absurd err_lib h
 have hf2:f<2:=hf;rw [show pairL.map (·.mod)=[appM,libM] from rfl] at hn hm;rw [name_pair hf2] at hn;have h0:f=1:=by
  by_cases e:f=0
  ·rw [if_pos e] at hn;exact absurd hn app_lib
  ·omega
 subst h0;refine Rising.same hr (by simp [Rising]) (fun x=>?_);rw [hm]
 constructor
 ·rintro ⟨k,hk,rfl⟩
  obtain ⟨rfl,_⟩:=via_need.1 (via_turn.1 hk);simp [name_pair]
 ·intro hx
  obtain rfl:x=appN:=by simpa using hx
  exact ⟨0,via_turn.2 (via_need.2 ⟨rfl,rfl⟩),rfl⟩
theorem ord_pair:ZbE pairL=([libN,appN],0):=by
 unfold ZbE;rw [if_neg (by rw [chk_pairG];exact fun h=>h rfl)];have hr:risen pairL=[appM,libM]:=by
  unfold risen;refine List.mergeSort_of_pairwise ?_
  show List.Pairwise _ [appM,libM]
  rw [List.pairwise_cons];refine ⟨fun x hx=>?_,by simp⟩;obtain rfl:x=libM:=by simpa using hx
  show decide (appM.name.data.toList≤libM.name.data.toList)=true
  decide
 rw [hr];exact ordRes_some (by kernel_rfl)
theorem lnB_a2:(ZbY kernK pairL).2=0:=by kernel_rfl
end Go.Proofs.YtlpnfbpgnfappaaGreat
namespace Go.Proofs.YtlpnfbpgnfappaaGreat
open Go.RowKit Go.PlainAid Go.Lib
theorem sets4 {W:World} {B:Nat} {t:TypeId} {a0 a1 a2 a3:Value} (h:Za W B t #[a0,a1,a2,a3]) (v0 v1 v2 v3:Value) :
  Za ((((W.setCell ⟨B,0,none⟩ v0).setCell ⟨B,1,none⟩ v1).setCell ⟨B,2,none⟩ v2).setCell ⟨B,3,none⟩ v3) B t #[v0,v1,v2,v3]:=by
 have h3:=Za.set 3 v3 (Za.set 2 v2 (Za.set 1 v1 (Za.set 0 v0 h)));simp only [List.setIfInBounds_toArray,List.set_cons_zero,List.set_cons_succ] at h3;exact h3
theorem Zat (W:World) (B:Nat) (v0 v1 v2 v3:Value) :
  W.grownBy ((((W.setCell ⟨B,0,none⟩ v0).setCell ⟨B,1,none⟩ v1).setCell ⟨B,2,none⟩ v2).setCell ⟨B,3,none⟩ v3) (some B):=
 ((((Zai W B 0 v0).trans (Zai _ B 1 v1)).trans (Zai _ B 2 v2)).trans (Zai _ B 3 v3))
theorem Zal.apart {α:Type} {sz:Nat} {cells:α→Nat→Value} {n:Nat} {W W':World} {v:Value} {l:List α} (h:Zal sz cells n W v l) {B:Nat} (hg:W.grownBy W' (some B)) (hn:n≤W.heap.size)
  (hne:∀ off x,x∈l→¬ (∀ i,i<sz→W.cell? ⟨B,off+i,none⟩=some (cells x i))):Zal sz cells n W' v l:=by
 obtain ⟨a,cap,e,hl,h | ⟨b,off,e2,hlt,hc⟩⟩:=h
 ·exact ⟨a,cap,e,hl,.inl h⟩
 ·refine ⟨a,cap,e,hl,?_⟩
  cases l with
  | nil=>exact .inl rfl
  | cons x0 r=>
   have hbB:b≠B:=by
    rintro rfl;refine hne off x0 (by simp) fun i hi=>?_
    have:=hc 0 x0 rfl i hi
    rwa [Nat.zero_mul,Nat.add_zero] at this
   refine .inr ⟨b,off,e2,hlt,fun j x hj i hi=>?_⟩;have hblk:=hg.block b (by omega) (fun e=>hbB (Option.some.inj e));have h1:=hc j x hj i hi;unfold World.cell? at h1 ⊢;dsimp only at h1 ⊢;rw [hblk];exact h1
theorem Zci {W:World} {B:Nat} {t:TypeId} (h:Za W B t #[.int .i64 0,.int .i64 0,.slice none 0 0,.slice none 0 0]) (off:Nat) :
  (∀ s,W.cell? ⟨B,off,none⟩≠some (.string s))∧∀ a b c,W.cell? ⟨B,off,none⟩=some (.int .i64 a)→W.cell? ⟨B,off+1,none⟩=some (.int .i64 b)→W.cell? ⟨B,off+2,none⟩≠some (.int .i64 c):=by
 have c0:=h.cell off;have c1:=h.cell (off+1);have c2:=h.cell (off+2);rw [c0,c1,c2]
 match off with
 | 0=>simp
 | 1=>simp
 | 2=>simp
 | 3=>simp
 | k+4=>simp
theorem Zaw.apart {n:Nat} {W W':World} {v:Value} {K:Ker} {l:List PV} (h:Zaw n W v K l) {B:Nat} {t:TypeId} (hg:W.grownBy W' (some B)) (hn:n≤W.heap.size) (hB:Za W B t #[.int .i64 0,.int .i64 0,.slice none 0 0,.slice none 0 0]):Zaw n W' v K l:=by
 obtain ⟨ve,vl,e,h1,h2,h3⟩:=h;refine ⟨ve,vl,e,h1.apart hg hn ?_,h2.apart hg hn ?_,fun x hx=>?_⟩
 ·intro off x _ hc
  exact (Zci hB off).1 _ (hc 0 (by omega))
 ·intro off x _ hc
  exact (Zci hB off).1 _ (hc 0 (by omega))
 ·obtain ⟨g1,g2,g3⟩:=h3 x hx
  refine ⟨g1.apart hg hn ?_,g2.apart hg hn ?_,g3.apart hg hn ?_⟩
  ·intro off x _ hc
   exact (Zci hB off).1 _ (hc 0 (by omega))
  ·intro off x _ hc
   exact (Zci hB off).1 _ (hc 0 (by omega))
  ·intro off x _ hc
   exact (Zci hB off).2 _ _ _ (hc 0 (by omega)) (hc 1 (by omega)) (hc 2 (by omega))
theorem reg_any (w:World):Calls Tryz.prog 56 #[] w fun e w'=>∃ v l,e=.returned v∧l.map PV.plc=pairL∧Zaw w'.heap.size w' v kernK l∧Below w.heap.size w w':=by
 have C1:Za (w.alloc (.cells #[.int .i64 0,.int .i64 0,.slice none 0 0,.slice none 0 0] 27)) w.heap.size 27 #[.int .i64 0,.int .i64 0,.slice none 0 0,.slice none 0 0]:=Za.new w 27 #[.int .i64 0,.int .i64 0,.slice none 0 0,.slice none 0 0];have B1:Below w.heap.size w (w.alloc (.cells #[.int .i64 0,.int .i64 0,.slice none 0 0,.slice none 0 0] 27)):=(Below.refl _ _).alloc (Nat.le_refl _) _
 go_enter Tryz.func56,Tryz.ntmps56
 go_wp2_with fail;refine (kernelFn_any _).mono ?_;rintro e w1 ⟨vk,rfl,hK,b1⟩;replace C1:=C1.below b1 C1.lt;replace B1:=B1.trans (b1.mono B1.size);go_wp2_with fail;refine (pair_any _).mono ?_;rintro e w2 ⟨v,l,rfl,hl,hP,b2⟩;replace C1:=C1.below b2 C1.lt;replace B1:=B1.trans (b2.mono B1.size);have hK2:=(hK.below b2).more b2.size;obtain ⟨ve,rfl,hE⟩:=hK2;have hR:Zaw w2.heap.size w2 (.agg #[.int .i64 kernK.major,.int .i64 kernK.minor,ve,v]) kernK l:=⟨ve,v,rfl,hE,hP⟩;obtain ⟨pe,ke,rfl,_⟩:=hE;have hP':=hP.1;obtain ⟨pl,kl,rfl,_⟩:=hP';have q0:=C1.cell 0;have q1:=C1.cell 1;have q2:=C1.cell 2;have q3:=C1.cell 3;have f0:=C1.frozen 0;have f1:=C1.frozen 1;have f2:=C1.frozen 2;have f3:=C1.frozen 3;have hq:=C1.lt;simp at q0 q1 q2 q3;have HC1:Hid _:=C1;have HB1:Hid _:=B1;have HR:Hid _:=hR;have HL:Hid _:=hl;clear hP hl hR hK b1 b2 B1 C1;dsimp only [kernK] at *;go_wp2;clear q0 q1 q2 q3 f0 f1 f2 f3;have hF:=sets4 (W:=w2) (B:=w.heap.size) (t:=27) HC1.out (.int .i64 0) (.int .i64 0) (.slice pe 1 ke) (.slice pl l.length kl);have hG:=Zat w2 w.heap.size (.int .i64 0) (.int .i64 0) (.slice pe 1 ke) (.slice pl l.length kl)
 (try simp only [Exit.inBlock,Exit.then])
 refine bodyPost_ret (results_cell_row rfl _ _ _ _ _ _ _ rfl hF Tryz.underlying27 rfl (by kernel_rfl)) rfl ?_;refine ⟨_,l,rfl,HL.out,?_,HB1.out.grown hG HB1.out.size (fun k e=>by obtain rfl:=Option.some.inj e;exact Nat.le_refl _)⟩;exact (Zaw.apart (n:=w2.heap.size) (W:=w2) (v:=.agg #[.int .i64 0,.int .i64 0,.slice pe 1 ke,.slice pl l.length kl]) (K:=kernK) (l:=l) (t:=27) HR.out hG (Nat.le_refl _) HC1.out).more hG.size
def emptyK:Ker:=⟨0,0,[]⟩
def noN:ByteArray:=⟨#[110,111]⟩
theorem rgB_k1:ZaA kernK pairL=0:=by kernel_rfl
theorem rgB_k2:ZaA emptyK pairL=0:=by kernel_rfl
theorem rgB_a2:(ZbY emptyK pairL).2=5:=by kernel_rfl
theorem rgB_c:Zaq kernK pairL=0:=by
 unfold Zaq;rw [rgB_k1,ord_pair,if_neg (by decide),if_neg (by decide)];exact lnB_a2
theorem rgB_e:Zaq emptyK pairL=5:=by
 unfold Zaq;rw [rgB_k2,ord_pair,if_neg (by decide),if_neg (by decide)];exact rgB_a2
theorem rgB_fl:(pairL.find? fun p=>p.mod.name == libN).map (fun p=>p.first)=some 4:=by kernel_rfl
theorem rgB_fn:(pairL.find? fun p=>p.mod.name == noN).isNone=true:=by kernel_rfl
theorem rgB_l:(rgFind kernK pairL libN).2=0∧(rgFind kernK pairL libN).1.first=4:=by
 have h:=rgB_fl;unfold rgFind;rw [if_neg (by rw [rgB_c];decide)]
 cases hf:pairL.find? fun p=>p.mod.name == libN with
 | none=>rw [hf] at h;cases h
 | some p=>
  rw [hf] at h;exact ⟨rfl,Option.some.inj h⟩
theorem rgB_n:(rgFind kernK pairL noN).2=5:=by
 have h:=rgB_fn;unfold rgFind;rw [if_neg (by rw [rgB_c];decide)]
 cases hf:pairL.find? fun p=>p.mod.name == noN with
 | none=>rfl
 | some p=>rw [hf] at h;cases h
theorem Zak.form {base:Nat} {W:World} {y:PV} (h:Zak base W y):∃ a1 n1 c1 a2 n2 c2 a3 n3 c3,y.val=.agg #[.string y.mod.name,.int .i64 y.mod.major,.int .i64 y.mod.minor,.string y.mod.text,.slice a1 n1 c1,.slice a2 n2 c2,.slice a3 n3 c3,.int .i64 y.first]:=by
 obtain ⟨o1,o2,o3⟩:=h;obtain ⟨a1,c1,e1⟩:=Zae o1;obtain ⟨a2,c2,e2⟩:=Zae o2;obtain ⟨a3,c3,e3⟩:=Zae o3;exact ⟨a1,_,c1,a2,_,c2,a3,_,c3,by unfold PV.val;rw [e1,e2,e3]⟩
theorem registryBegun_any (w:World):Calls Tryz.prog 20 #[] w fun e w'=>e=.returned (.bool true)∧Below w.heap.size w w':=by
 have HFL:Hid (∀ l v W,l.map PV.plc=pairL→Zaw W.heap.size W v kernK l→Calls Tryz.prog 29 #[v,.string ⟨#[108,105,98]⟩] W fun e w'=>(∃ N a b T a1 n1 c1 a2 n2 c2 a3 n3 c3,e=.returned (.tuple #[.agg #[.string N,.int .i64 a,.int .i64 b,.string T,.slice a1 n1 c1,.slice a2 n2 c2,.slice a3 n3 c3,.int .i64 4],.int .i64 0]))∧Below W.heap.size W w'):=fun l v W hl hR=>by
  refine (regFind_any kernK l v libN W hR kern_fits (Zbq hl)).mono ?_;rintro e w' ⟨⟨y,rfl,hy,hO⟩,hb⟩;rw [hl] at hy ⊢;obtain ⟨a1,n1,c1,a2,n2,c2,a3,n3,c3,e⟩:=hO.form;have hf:y.first=4:=by rw [← rgB_l.2,← hy];rfl
  exact ⟨⟨_,_,_,_,_,_,_,_,_,_,_,_,_,by rw [e,hf,rgB_l.1]⟩,hb⟩
 have HFN:Hid (∀ l v W,l.map PV.plc=pairL→Zaw W.heap.size W v kernK l→Calls Tryz.prog 29 #[v,.string ⟨#[110,111]⟩] W fun e w'=>(∃ N a b T a1 n1 c1 a2 n2 c2 a3 n3 c3 f,e=.returned (.tuple #[.agg #[.string N,.int .i64 a,.int .i64 b,.string T,.slice a1 n1 c1,.slice a2 n2 c2,.slice a3 n3 c3,.int .i64 f],.int .i64 5]))∧Below W.heap.size W w'):=fun l v W hl hR=>by
  refine (regFind_any kernK l v noN W hR kern_fits (Zbq hl)).mono ?_;rintro e w' ⟨⟨y,rfl,hy,hO⟩,hb⟩;rw [hl] at hy ⊢;obtain ⟨a1,n1,c1,a2,n2,c2,a3,n3,c3,e⟩:=hO.form;exact ⟨⟨_,_,_,_,_,_,_,_,_,_,_,_,_,_,by rw [e,rgB_n]⟩,hb⟩
 have HC:Hid (∀ l v W,l.map PV.plc=pairL→Zaw W.heap.size W v kernK l→Calls Tryz.prog 68 #[v] W fun e w'=>e=.returned (.int .i64 0)∧Below W.heap.size W w'):=fun l v W hl hR=>by
  have:=Zcj kernK l v W hR kern_fits (Zbq hl)
  rw [hl,rgB_c] at this;exact this
 have HE:Hid (∀ l a n c W,l.map PV.plc=pairL→Zax W.heap.size W (.slice a n c) l→Calls Tryz.prog 68 #[.agg #[.int .i64 0,.int .i64 0,.slice none 0 0,.slice a n c]] W fun e w'=>e=.returned (.int .i64 5)∧Below W.heap.size W w'):=fun l a n c W hl hP=>by
  have:=Zcj emptyK l (.agg #[.int .i64 0,.int .i64 0,.slice none 0 0,.slice a n c]) W ⟨_,_,rfl,⟨none,0,rfl,by simp [emptyK],.inl rfl⟩,hP⟩ (fun e he=>absurd he (by simp [emptyK])) (Zbq hl)
  rw [hl,rgB_e] at this;exact this
 go_enter Tryz.func20,Tryz.ntmps20
 go_wp2_with fail;refine (reg_any _).mono ?_;rintro e w1 ⟨v,l,rfl,hl,hR,B⟩;go_wp2_with fail;refine (HFL.out l v _ hl hR).mono ?_;rintro e w2 ⟨⟨N,a,b,T,a1,n1,c1,a2,n2,c2,a3,n3,c3,rfl⟩,b2⟩;replace B:=B.trans (b2.mono B.size);have B3:=B.alloc B.size (.cells #[.string N,.int .i64 a,.int .i64 b,.string T,.slice a1 n1 c1,.slice a2 n2 c2,.slice a3 n3 c3,.int .i64 4] 57);have C3:=Za.new w2 57 #[.string N,.int .i64 a,.int .i64 b,.string T,.slice a1 n1 c1,.slice a2 n2 c2,.slice a3 n3 c3,.int .i64 4];have HB3:Hid _:=B3;have HC3:Hid _:=C3;clear hl hR b2 B B3 C3 HFL;go_wp2_with fail;refine (reg_any _).mono ?_;have B:=HB3.out;have C:=HC3.out;clear HB3 HC3;generalize w2.alloc (.cells #[.string N,.int .i64 a,.int .i64 b,.string T,.slice a1 n1 c1,.slice a2 n2 c2,.slice a3 n3 c3,.int .i64 4] 57)=w3 at B C ⊢;generalize w2.heap.size=Bx at C ⊢;rintro e w4 ⟨v,l,rfl,hl,hR,b⟩;replace C:=Za.below C b (Za.lt C);replace B:=B.trans (b.mono B.size);clear b;go_wp2_with fail;refine (HFN.out l v _ hl hR).mono ?_;rintro e w5 ⟨⟨N',a',b',T',a1',n1',c1',a2',n2',c2',a3',n3',c3',f',rfl⟩,b2⟩;replace C:=Za.below C b2 (Za.lt C);replace B:=B.trans (b2.mono B.size);have B3:=B.alloc B.size (.cells #[.string N',.int .i64 a',.int .i64 b',.string T',.slice a1' n1' c1',.slice a2' n2' c2',.slice a3' n3' c3',.int .i64 f'] 57);have C3:=Za.kept C (World.grownBy_alloc w5 (.cells #[.string N',.int .i64 a',.int .i64 b',.string T',.slice a1' n1' c1',.slice a2' n2' c2',.slice a3' n3' c3',.int .i64 f'] 57) none) (by simp);have HB3:Hid _:=B3;have HC3:Hid _:=C3;clear hl hR b2 B B3 C C3 HFN;go_wp2_with fail;refine (reg_any _).mono ?_;have B:=HB3.out;have C:=HC3.out;clear HB3 HC3;generalize w5.alloc (.cells #[.string N',.int .i64 a',.int .i64 b',.string T',.slice a1' n1' c1',.slice a2' n2' c2',.slice a3' n3' c3',.int .i64 f'] 57)=w6 at B C ⊢;rintro e w7 ⟨v,l,rfl,hl,hR,b⟩;replace C:=Za.below C b (Za.lt C);replace B:=B.trans (b.mono B.size);clear b;go_wp2_with fail;refine (HC.out l v _ hl hR).mono ?_;rintro e w8 ⟨rfl,b⟩;replace C:=Za.below C b (Za.lt C);replace B:=B.trans (b.mono B.size);clear b hl hR HC;go_wp2_with fail;refine (pair_any _).mono ?_;rintro e w9 ⟨v,l,rfl,hl,hP,b⟩;replace C:=Za.below C b (Za.lt C);replace B:=B.trans (b.mono B.size);have hP':=hP.1;obtain ⟨pl,kl,rfl,_⟩:=hP';clear b;go_wp2_with fail;refine (HE.out l _ _ _ _ hl hP).mono ?_;rintro e w10 ⟨rfl,b⟩;replace C:=Za.below C b (Za.lt C);replace B:=B.trans (b.mono B.size);clear b hl hP HE;have q7:=Za.cell C 7;have hq:=Za.lt C;simp at q7;clear C;go_wp2;go_ret;exact ⟨rfl,B⟩
theorem flat_put {α:Type} {C:α→List Value} {sz:Nat} (hC:∀ x,(C x).length=sz):∀ (l:List α) (k:Nat) (x y:α) (i:Nat) (u:Value),l[k]?=some x→i<sz→(C x).set i u=C y→(l.flatMap C).set (k*sz+i) u=(l.set k y).flatMap C
 | [],k,x,y,i,u,h,_,_=>by simp at h
 | z::l,0,x,y,i,u,h,hi,he=>by
  obtain rfl:z=x:=by simpa using h
  rw [List.flatMap_cons,Nat.zero_mul,Nat.zero_add,List.set_append_left _ _ (by rw [hC];exact hi),he]
  rfl
 | z::l,k+1,x,y,i,u,h,hi,he=>by
  have h':l[k]?=some x:=by simpa using h
  have hz:=hC z;rw [List.flatMap_cons,List.set_append_right _ _ (by rw [hz,Nat.succ_mul];omega),hz,show (k+1)*sz+i-sz=k*sz+i by rw [Nat.succ_mul];omega,flat_put hC l k x y i u h' hi he]
  rfl
theorem set_at {l:List PV} {j:Nat} {x:PV} (hx:l[j]?=some x) (y:PV):(l.set j y)[j]?=some y:=by
 rw [List.getElem?_set_self (List.getElem?_eq_some_iff.1 hx).1]
theorem own_put {W:World} {base g n cap:Nat} {l:List PV} {j:Nat} {x:PV} (h:W.ownsRow base 57 8 (.slice (some ⟨g,0,none⟩) n cap) n (l.flatMap pvC)) (hx:l[j]?=some x) (y:PV) :
  ((((((((W.setCell ⟨g,j*8,none⟩ (.string y.mod.name)).setCell ⟨g,j*8+1,none⟩ (.int .i64 y.mod.major)).setCell ⟨g,j*8+2,none⟩ (.int .i64 y.mod.minor)).setCell ⟨g,j*8+3,none⟩ (.string y.mod.text)).setCell ⟨g,j*8+4,none⟩ y.ve).setCell ⟨g,j*8+5,none⟩ y.vi).setCell ⟨g,j*8+6,none⟩ y.vp).setCell ⟨g,j*8+7,none⟩ (.int .i64 y.first)).ownsRow base 57 8 (.slice (some ⟨g,0,none⟩) n cap) n ((l.set j y).flatMap pvC)∧
  W.grownBy ((((((((W.setCell ⟨g,j*8,none⟩ (.string y.mod.name)).setCell ⟨g,j*8+1,none⟩ (.int .i64 y.mod.major)).setCell ⟨g,j*8+2,none⟩ (.int .i64 y.mod.minor)).setCell ⟨g,j*8+3,none⟩ (.string y.mod.text)).setCell ⟨g,j*8+4,none⟩ y.ve).setCell ⟨g,j*8+5,none⟩ y.vi).setCell ⟨g,j*8+6,none⟩ y.vp).setCell ⟨g,j*8+7,none⟩ (.int .i64 y.first)) (some g):=by
 obtain ⟨⟨N,a,b,T,es,is,ps⟩,ve,vi,vp,fi⟩:=y;have F:=fun (l:List PV) (x y:PV) (i:Nat) (u:Value)=>flat_put (C:=pvC) (sz:=8) (fun _=>rfl) l j x y i u;obtain ⟨o0,g0⟩:=h.stored (j*8) (.string N);obtain ⟨o1,g1⟩:=o0.stored (j*8+1) (.int .i64 a);obtain ⟨o2,g2⟩:=o1.stored (j*8+2) (.int .i64 b);obtain ⟨o3,g3⟩:=o2.stored (j*8+3) (.string T);obtain ⟨o4,g4⟩:=o3.stored (j*8+4) ve;obtain ⟨o5,g5⟩:=o4.stored (j*8+5) vi;obtain ⟨o6,g6⟩:=o5.stored (j*8+6) vp;obtain ⟨o7,g7⟩:=o6.stored (j*8+7) (.int .i64 fi);refine ⟨?_,(((((((g0.trans g1).trans g2).trans g3).trans g4).trans g5).trans g6).trans g7)⟩;have e:((((((((l.flatMap pvC).set (j*8) (.string N)).set (j*8+1) (.int .i64 a)).set (j*8+2) (.int .i64 b)).set (j*8+3) (.string T)).set (j*8+4) ve).set (j*8+5) vi).set (j*8+6) vp).set (j*8+7) (.int .i64 fi)=(l.set j ⟨⟨N,a,b,T,es,is,ps⟩,ve,vi,vp,fi⟩).flatMap pvC:=by
  obtain ⟨⟨N',a',b',T',es',is',ps'⟩,ve',vi',vp',fi'⟩:=x;have G:∀ (x y:PV) (z:PV) (i:Nat) (u:Value),l[j]?=some x→i<8→(pvC z).set i u=pvC y→((l.set j z).flatMap pvC).set (j*8+i) u=(l.set j y).flatMap pvC:=fun x y z i u hx hi he=>by
   rw [F (l.set j z) z y i u (set_at hx z) hi he,List.set_set]
  have s0:=F l _ ⟨⟨N,a',b',T',es',is',ps'⟩,ve',vi',vp',fi'⟩ 0 (.string N) hx (by omega) rfl;rw [Nat.add_zero] at s0;have s1:=G _ ⟨⟨N,a,b',T',es',is',ps'⟩,ve',vi',vp',fi'⟩ ⟨⟨N,a',b',T',es',is',ps'⟩,ve',vi',vp',fi'⟩ 1 (.int .i64 a) hx (by omega) rfl;have s2:=G _ ⟨⟨N,a,b,T',es',is',ps'⟩,ve',vi',vp',fi'⟩ ⟨⟨N,a,b',T',es',is',ps'⟩,ve',vi',vp',fi'⟩ 2 (.int .i64 b) hx (by omega) rfl;have s3:=G _ ⟨⟨N,a,b,T,es',is',ps'⟩,ve',vi',vp',fi'⟩ ⟨⟨N,a,b,T',es',is',ps'⟩,ve',vi',vp',fi'⟩ 3 (.string T) hx (by omega) rfl;have s4:=G _ ⟨⟨N,a,b,T,es',is',ps'⟩,ve,vi',vp',fi'⟩ ⟨⟨N,a,b,T,es',is',ps'⟩,ve',vi',vp',fi'⟩ 4 ve hx (by omega) rfl;have s5:=G _ ⟨⟨N,a,b,T,es',is',ps'⟩,ve,vi,vp',fi'⟩ ⟨⟨N,a,b,T,es',is',ps'⟩,ve,vi',vp',fi'⟩ 5 vi hx (by omega) rfl;have s6:=G _ ⟨⟨N,a,b,T,es',is',ps'⟩,ve,vi,vp,fi'⟩ ⟨⟨N,a,b,T,es',is',ps'⟩,ve,vi,vp',fi'⟩ 6 vp hx (by omega) rfl;have s7:=G _ ⟨⟨N,a,b,T,es,is,ps⟩,ve,vi,vp,fi⟩ ⟨⟨N,a,b,T,es',is',ps'⟩,ve,vi,vp,fi'⟩ 7 (.int .i64 fi) hx (by omega) rfl;rw [s0,s1,s2,s3,s4,s5,s6,s7]
 rw [e] at o7;exact o7
def Zau (base:Nat) (W:World) (v:Value) (K:Ker) (l:List PV):Prop:=
 ∃ ve vl,v=.agg #[.int .i64 K.major,.int .i64 K.minor,ve,vl]∧W.ownsRow base 129 2 ve K.exps.length (K.exps.flatMap expC)∧W.ownsRow base 57 8 vl l.length (l.flatMap pvC)∧∀ x∈l,Zak base W x
theorem Zak.beside {base b n:Nat} {W W':World} {y:PV} {v:Value} {xs:List Value} (h:Zak base W y) (hr:W.ownsRow b 57 8 v n xs) (hg:W.grownBy W' v.ownBlock):Zak base W' y:=
 ⟨ZaN h.1 hr (by decide) hg,ZaN h.2.1 hr (by decide) hg,ZaN h.2.2 hr (by decide) hg⟩
theorem Zak.ZbM {base B:Nat} {W:World} {y:PV} {t:TypeId} {cs:Array Value} (h:Zak base W y) (hc:Za W B t cs) (h1:129≠t) (h2:106≠t) (h3:113≠t) {W':World} (hg:W.grownBy W' (some B)):Zak base W' y:=
 ⟨h.1.kept hg (.inr (Zao h.1 hc h1)),h.2.1.kept hg (.inr (Zao h.2.1 hc h2)),h.2.2.kept hg (.inr (Zao h.2.2 hc h3))⟩
theorem Zak.lower {base b:Nat} {W:World} {y:PV} (h:Zak base W y) (hb:b≤base):Zak b W y:=⟨ZbR h.1 hb,ZbR h.2.1 hb,ZbR h.2.2 hb⟩
theorem copyReg_any (K:Ker) (l:List PV) (v:Value) (w:World) (h:Zaw w.heap.size w v K l) (hk:K.exps.length≤255) (hl:l.length≤255) (hm:∀ x∈l,x.mod.exps.length≤255∧x.mod.imps.length≤255∧x.mod.pats.length≤255) :
  Calls Tryz.prog 91 #[v] w fun e w'=>(∃ v' l',e=.returned v'∧l'.map PV.plc=l.map PV.plc∧Zau w.heap.size w' v' K l')∧Below w.heap.size w w':=by
 obtain ⟨ve,vl,rfl,hE,hL⟩:=h;have HE:Hid (∀ W,Below w.heap.size w W→Calls Tryz.prog 125 #[ve] W fun e w'=>(∃ r,e=.returned r∧w'.ownsRow W.heap.size 129 2 r K.exps.length (K.exps.flatMap expC))∧Below W.heap.size W w'):=fun W hb=>cloneExp_any _ _ W ((hE.below hb).more hb.size) hk;have HP:Hid (∀ W,Below w.heap.size w W→Calls Tryz.prog 150 #[vl] W fun e w'=>(∃ r,e=.returned r∧w'.ownsRow W.heap.size 57 8 r l.length (l.flatMap pvC))∧Below W.heap.size W w'):=fun W hb=>clonePlc_any _ _ W ((hL.1.below hb).more hb.size) hl (pvs_one hL.2);have HC:Hid (∀ x∈l,∀ W,Below w.heap.size w W→Calls Tryz.prog 81 #[x.val] W fun e w'=>(∃ y:PV,e=.returned y.val∧y.plc=x.plc∧Zak W.heap.size w' y)∧Below W.heap.size W w'):=fun x hx W hb=>copyPlc_any x W (((hL.2 x hx).below hb).more hb.size) (hm x hx).1 (hm x hx).2.1 (hm x hx).2.2;have hat:=hL.2;obtain ⟨qe,je,rfl,-,-⟩:=hE;obtain ⟨⟨a,cap,rfl,-,-⟩,-⟩:=hL;obtain ⟨ma,mi,ks⟩:=K;dsimp only at *;generalize hxe:ks.flatMap expC=xe at *;generalize hlk:ks.length=lk at *;have B1:Below w.heap.size w ((w.alloc (.cells #[.int .i64 ma,.int .i64 mi,.slice qe lk je,.slice a l.length cap] 27)).alloc (.cells #[.int .i64 0,.int .i64 0,.slice none 0 0,.slice none 0 0] 27)):=((Below.refl _ _).alloc (Nat.le_refl _) _).alloc (by simp) _;have C1:Za ((w.alloc (.cells #[.int .i64 ma,.int .i64 mi,.slice qe lk je,.slice a l.length cap] 27)).alloc (.cells #[.int .i64 0,.int .i64 0,.slice none 0 0,.slice none 0 0] 27)) w.heap.size 27 #[.int .i64 ma,.int .i64 mi,.slice qe lk je,.slice a l.length cap]:=(Za.new w 27 #[.int .i64 ma,.int .i64 mi,.slice qe lk je,.slice a l.length cap]).kept (World.grownBy_alloc _ _ none) (by simp);have Z1:Za ((w.alloc (.cells #[.int .i64 ma,.int .i64 mi,.slice qe lk je,.slice a l.length cap] 27)).alloc (.cells #[.int .i64 0,.int .i64 0,.slice none 0 0,.slice none 0 0] 27)) (w.heap.size+1) 27 #[.int .i64 0,.int .i64 0,.slice none 0 0,.slice none 0 0]:=by
  have:=Za.new (w.alloc (.cells #[.int .i64 ma,.int .i64 mi,.slice qe lk je,.slice a l.length cap] 27)) 27 #[.int .i64 0,.int .i64 0,.slice none 0 0,.slice none 0 0]
  rw [World.size_alloc] at this;exact this
 go_enter Tryz.func91,Tryz.ntmps91
 go_wp2_with fail;refine (HE.out _ B1).mono ?_;generalize ((w.alloc (.cells #[.int .i64 ma,.int .i64 mi,.slice qe lk je,.slice a l.length cap] 27)).alloc (.cells #[.int .i64 0,.int .i64 0,.slice none 0 0,.slice none 0 0] 27))=u1 at B1 C1 Z1;clear HE;rintro e w2 ⟨⟨r1,rfl,o1⟩,b1⟩;obtain ⟨a1,c1,rfl⟩:=Zae o1;have LU1:w.heap.size≤u1.heap.size:=B1.size;have z1:w.heap.size+1<u1.heap.size:=Za.lt Z1;replace C1:=Za.below C1 b1 (Za.lt C1);replace Z1:=Za.below Z1 b1 (Za.lt Z1);replace B1:=B1.trans (b1.mono B1.size);have C2:Za (w2.setCell ⟨w.heap.size,2,none⟩ (.slice a1 lk c1)) w.heap.size 27 #[.int .i64 ma,.int .i64 mi,.slice a1 lk c1,.slice a l.length cap]:=Za.set 2 (.slice a1 lk c1) C1;have g1:=Zai w2 w.heap.size 2 (.slice a1 lk c1);have Z2:=Za.kept Z1 g1 (by simp);have B2:=B1.grown g1 B1.size (fun k e=>by obtain rfl:=Option.some.inj e;exact Nat.le_refl _);have O1:=ZbD o1 g1 (fun k e=>by obtain rfl:=Option.some.inj e;omega);have q2:=Za.cell C1 2;have q3:=Za.cell C1 3;have f2:=Za.frozen C1 2;have hl1:=Za.lt C1;simp at q2 q3;have HC2:Hid _:=C2;have HZ2:Hid _:=Z2;have HB2:Hid _:=B2;have HO1:Hid _:=O1;clear C1 Z1 B1 o1 b1 C2 g1 Z2 B2 O1;go_wp2_with fail;refine (HP.out _ HB2.out).mono ?_;have C2:=HC2.out;have Z2:=HZ2.out;have B2:=HB2.out;have O1:=HO1.out;clear HC2 HZ2 HB2 HO1 q2 q3 f2 hl1 HP;generalize w2.setCell ⟨w.heap.size,2,none⟩ (.slice a1 lk c1)=u2 at C2 Z2 B2 O1;rintro e w3 ⟨⟨r2,rfl,o2⟩,b2⟩;obtain ⟨a2,c2,rfl⟩:=Zae o2;have LU2:w.heap.size≤u2.heap.size:=B2.size;have z2:w.heap.size+1<u2.heap.size:=Za.lt Z2;replace C2:=Za.below C2 b2 (Za.lt C2);replace Z2:=Za.below Z2 b2 (Za.lt Z2);replace B2:=B2.trans (b2.mono B2.size);replace O1:=own_below O1 b2;have C3:Za (w3.setCell ⟨w.heap.size,3,none⟩ (.slice a2 l.length c2)) w.heap.size 27 #[.int .i64 ma,.int .i64 mi,.slice a1 lk c1,.slice a2 l.length c2]:=Za.set 3 (.slice a2 l.length c2) C2;have g2:=Zai w3 w.heap.size 3 (.slice a2 l.length c2);have Z3:=Za.kept Z2 g2 (by simp);have B3:=B2.grown g2 B2.size (fun k e=>by obtain rfl:=Option.some.inj e;exact Nat.le_refl _);have O1':=ZbD O1 g2 (fun k e=>by obtain rfl:=Option.some.inj e;omega);have O2':=ZbD o2 g2 (fun k e=>by obtain rfl:=Option.some.inj e;omega);have q3:=Za.cell C2 3;have f3:=Za.frozen C2 3;have hl2:=Za.lt C2;have q3':=Za.cell C3 3;simp at q3 q3';have HC3:Hid _:=C3;have HZ3:Hid _:=Z3;have HB3:Hid _:=B3;have HO1:Hid _:=O1';have HO2:Hid _:=O2';clear C2 Z2 B2 O1 o2 b2 C3 g2 Z3 B3 O1' O2';go_wp2_with fail;have C:=HC3.out;have Zz:=HZ3.out;have B:=HB3.out;have O1:=HO1.out;have O2:=HO2.out;clear HC3 HZ3 HB3 HO1 HO2 q3 f3 hl2 q3';generalize w3.setCell ⟨w.heap.size,3,none⟩ (.slice a2 l.length c2)=wL at C Zz B O1 O2 ⊢
 go_loopg [18] l.length (fun gk i wr=>∃ (j:Nat) (dn:List PV),Hid (gk=l.length-j)∧j≤l.length∧i=.int .i64 j∧dn.length=j∧Hid (dn.map PV.plc=(l.take j).map PV.plc)∧Hid (wr.ownsRow w.heap.size 57 8 (.slice a2 l.length c2) l.length ((dn++l.drop j).flatMap pvC))∧Hid (∀ y∈dn,Zak w.heap.size wr y)∧Hid (wr.ownsRow w.heap.size 129 2 (.slice a1 lk c1) lk xe)∧Hid (Za wr w.heap.size 27 #[.int .i64 ma,.int .i64 mi,.slice a1 lk c1,.slice a2 l.length c2])∧Hid (Za wr (w.heap.size+1) 27 #[.int .i64 0,.int .i64 0,.slice none 0 0,.slice none 0 0])∧Hid (Below w.heap.size w wr))
 case atStart=>exact ⟨0,[],(rfl:l.length=l.length-0),Nat.zero_le _,rfl,rfl,(rfl:([]:List PV).map PV.plc=(l.take 0).map PV.plc),(by show wL.ownsRow _ _ _ _ _ _;exact ZbR O2 LU2),(by intro y hy;simp at hy),ZbR O1 LU1,C,Zz,B⟩
 case round=>
  clear C Zz B O1 O2;obtain ⟨j,dn,HGK,hj,rfl,hdn,HPL,HO2,HYS,HO1,HC2,HZ2,HB2⟩:=hrel;have C:=HC2.out;have Zz:=HZ2.out;have B:=HB2.out;clear HC2 HZ2 HB2
  by_cases hlj:j<l.length
  ·obtain ⟨x,hx⟩:∃ x,l[j]?=some x:=⟨_,List.getElem?_eq_getElem hlj⟩
   have hxm:=List.mem_of_getElem? hx;have hel:(dn++l.drop j)[j]?=some x:=by
    rw [List.getElem?_append_right (by omega),hdn,Nat.sub_self,List.getElem?_drop,Nat.add_zero];exact hx
   have HXC:=HC.out x hxm;have HNX:Hid (∀ y:PV,y.plc=x.plc→((dn++[y]).map PV.plc=(l.take (j+1)).map PV.plc)∧(dn++l.drop j).set j y=(dn++[y])++l.drop (j+1)):=fun y hy=>by
    refine ⟨?_,?_⟩
    ·rw [List.map_append,HPL.out,List.take_add_one,hx,List.map_append]
     simp [hy]
    ·rw [drop_at hx,List.set_append_right _ _ (by omega),hdn,Nat.sub_self]
     simp
   obtain ⟨g,c9,cur,ea,hg,hcur,-⟩:∃ g c9 cur,Value.slice a2 l.length c2=.slice (some ⟨g,0,none⟩) l.length c9∧w.heap.size≤g∧wr.heap[g]?=some cur∧True:=by
    rcases HO2.out.2 with ⟨_,hn⟩ | ⟨g,c9,cur,e,hg,hcur,_⟩
    ·omega
    ·exact ⟨g,c9,_,e,hg,hcur,trivial⟩
   injection ea with ea1 ea2 ea3;subst ea1 ea3;have hgw:g<wr.heap.size:=(Array.getElem?_eq_some_iff.1 hcur).1;have fl:=fun i (hi:i<8)=>flat_at (C:=pvC) (sz:=8) (fun _=>rfl) (dn++l.drop j) j x i hel hi;have cl:=fun i (hi:i<8)=>(World.ownsRow.cellAt HO2.out (j*8+i) (by omega)).trans (fl i hi);obtain ⟨⟨pe,ke,e4,-⟩,⟨pi,ki,e5,-⟩,⟨pp,kp,e6,-⟩⟩:=hat x hxm;have HPUT:Hid (∀ (W:World) (y:PV),W.ownsRow w.heap.size 57 8 (.slice (some ⟨g,0,none⟩) l.length c2) l.length ((dn++l.drop j).flatMap pvC)→_):=fun W y ho=>own_put (l:=dn++l.drop j) (j:=j) ho hel y;have HY:Hid (∀ y:PV,y.plc=x.plc→∃ r1 r2 r3,y=⟨x.mod,r1,r2,r3,x.first⟩):=fun y hy=>by
    obtain ⟨m,r1,r2,r3,f⟩:=y;unfold PV.plc at hy;injection hy with h1 h2;dsimp only at h1 h2;exact ⟨r1,r2,r3,by rw [h1,h2]⟩
   obtain ⟨⟨N,xa,xi,T,es,is,ps⟩,ve,vi,vp,fi⟩:=x;dsimp only [pvC,PV.val] at *;subst e4 e5 e6;have c0:wr.cell? ⟨g,j*8,none⟩=some (.string N):=cl 0 (by omega);have d1:wr.cell? ⟨g,j*8+1,none⟩=some (.int .i64 xa):=cl 1 (by omega);have d2:wr.cell? ⟨g,j*8+2,none⟩=some (.int .i64 xi):=cl 2 (by omega);have d3:wr.cell? ⟨g,j*8+3,none⟩=some (.string T):=cl 3 (by omega);have d4:wr.cell? ⟨g,j*8+4,none⟩=some (.slice pe es.length ke):=cl 4 (by omega);have d5:wr.cell? ⟨g,j*8+5,none⟩=some (.slice pi is.length ki):=cl 5 (by omega);have d6:wr.cell? ⟨g,j*8+6,none⟩=some (.slice pp ps.length kp):=cl 6 (by omega);have d7:wr.cell? ⟨g,j*8+7,none⟩=some (.int .i64 fi):=cl 7 (by omega);have hjl:(j:Int)<(l.length:Int):=by omega
   have hj0:¬ ((j:Int)<0):=by omega
   have HXX:Hid (∀ W,Below w.heap.size w W→Calls Tryz.prog 81 #[.agg #[.string N,.int .i64 xa,.int .i64 xi,.string T,.slice pe es.length ke,.slice pi is.length ki,.slice pp ps.length kp,.int .i64 fi]] W fun e w'=>(∃ y:PV,e=.returned y.val∧y.plc=_∧Zak W.heap.size w' y)∧Below W.heap.size W w'):=HXC;have ga:=World.grownBy_alloc wr (.cells #[.string N,.int .i64 xa,.int .i64 xi,.string T,.slice pe es.length ke,.slice pi is.length ki,.slice pp ps.length kp,.int .i64 fi] 57) none;have HBP:Hid (Below w.heap.size w (wr.alloc (.cells #[.string N,.int .i64 xa,.int .i64 xi,.string T,.slice pe es.length ke,.slice pi is.length ki,.slice pp ps.length kp,.int .i64 fi] 57)).drew):=(B.alloc B.size _).drew;have HCP:Hid (Za (wr.alloc (.cells #[.string N,.int .i64 xa,.int .i64 xi,.string T,.slice pe es.length ke,.slice pi is.length ki,.slice pp ps.length kp,.int .i64 fi] 57)).drew w.heap.size 27 #[.int .i64 ma,.int .i64 mi,.slice a1 lk c1,.slice (some ⟨g,0,none⟩) l.length c2]):=(Za.kept (W':=wr.alloc _) C ga (by simp):_);have HZP:Hid (Za (wr.alloc (.cells #[.string N,.int .i64 xa,.int .i64 xi,.string T,.slice pe es.length ke,.slice pi is.length ki,.slice pp ps.length kp,.int .i64 fi] 57)).drew (w.heap.size+1) 27 #[.int .i64 0,.int .i64 0,.slice none 0 0,.slice none 0 0]):=(Za.kept (W':=wr.alloc _) Zz ga (by simp):_);have HPP:Hid (Za (wr.alloc (.cells #[.string N,.int .i64 xa,.int .i64 xi,.string T,.slice pe es.length ke,.slice pi is.length ki,.slice pp ps.length kp,.int .i64 fi] 57)).drew wr.heap.size 57 #[.string N,.int .i64 xa,.int .i64 xi,.string T,.slice pe es.length ke,.slice pi is.length ki,.slice pp ps.length kp,.int .i64 fi]):=Za.new wr 57 #[.string N,.int .i64 xa,.int .i64 xi,.string T,.slice pe es.length ke,.slice pi is.length ki,.slice pp ps.length kp,.int .i64 fi];have HOP:Hid ((wr.alloc (.cells #[.string N,.int .i64 xa,.int .i64 xi,.string T,.slice pe es.length ke,.slice pi is.length ki,.slice pp ps.length kp,.int .i64 fi] 57)).drew.ownsRow w.heap.size 57 8 (.slice (some ⟨g,0,none⟩) l.length c2) l.length ((dn++l.drop j).flatMap pvC)):=(HO2.out.alloc _).drew;have HOE:Hid ((wr.alloc (.cells #[.string N,.int .i64 xa,.int .i64 xi,.string T,.slice pe es.length ke,.slice pi is.length ki,.slice pp ps.length kp,.int .i64 fi] 57)).drew.ownsRow w.heap.size 129 2 (.slice a1 lk c1) lk xe):=(HO1.out.alloc _).drew;have HYP:Hid (∀ y∈dn,Zak w.heap.size (wr.alloc (.cells #[.string N,.int .i64 xa,.int .i64 xi,.string T,.slice pe es.length ke,.slice pi is.length ki,.slice pp ps.length kp,.int .i64 fi] 57)).drew y):=fun y hy=>(HYS.out y hy).below (((Below.refl _ _).alloc (Nat.le_refl _) _).drew);have LWX:w.heap.size+1<wr.heap.size:=Za.lt Zz;clear B C Zz HXC HC hx hxm hel fl cl hcur hat hm ga HO2 HO1 HYS;go_wp2_with fail;refine wp_region_noPanic ?_;refine Zba (S:=fun w'=>Za w' w.heap.size 27 #[.int .i64 ma,.int .i64 mi,.slice a1 lk c1,.slice (some ⟨g,0,none⟩) l.length c2]∧Za w' wr.heap.size 57 #[.string N,.int .i64 xa,.int .i64 xi,.string T,.slice pe es.length ke,.slice pi is.length ki,.slice pp ps.length kp,.int .i64 fi]) (x:=6) (by kernel_rfl) ?_;generalize (wr.alloc (.cells #[.string N,.int .i64 xa,.int .i64 xi,.string T,.slice pe es.length ke,.slice pi is.length ki,.slice pp ps.length kp,.int .i64 fi] 57)).drew=wd at *;generalize wr.heap.size=BX at *;have hS0:Za wd w.heap.size 27 #[.int .i64 ma,.int .i64 mi,.slice a1 lk c1,.slice (some ⟨g,0,none⟩) l.length c2]∧Za wd BX 57 #[.string N,.int .i64 xa,.int .i64 xi,.string T,.slice pe es.length ke,.slice pi is.length ki,.slice pp ps.length kp,.int .i64 fi]:=⟨HCP.out,HPP.out⟩;refine Zaa 0 23 (.pointer (some ⟨w.heap.size,3,none⟩)) rfl (by kernel_rfl) (fun _ _ _ h=>h) hS0 rfl rfl (fun w' hSw=>by clear hSw;go_simp) ?_;simp only [List.setIfInBounds_toArray,List.set_cons_zero,List.set_cons_succ];refine Zaa 1 24 (.slice (some ⟨g,0,none⟩) l.length c2) rfl (by kernel_rfl) (fun _ _ _ h=>h) hS0 rfl rfl (fun w' hSw=>by have q:=Za.cell hSw.1 3;simp at q;clear hSw;go_simp) ?_;simp only [List.setIfInBounds_toArray,List.set_cons_zero,List.set_cons_succ];refine Zaa 2 25 (.int .i64 (j:Int)) rfl (by kernel_rfl) (fun _ _ _ h=>h) hS0 rfl rfl (fun w' hSw=>by clear hSw;go_simp) ?_;simp only [List.setIfInBounds_toArray,List.set_cons_zero,List.set_cons_succ];refine Zaa 3 26 (.agg #[.string N,.int .i64 xa,.int .i64 xi,.string T,.slice pe es.length ke,.slice pi is.length ki,.slice pp ps.length kp,.int .i64 fi]) rfl (by kernel_rfl) (fun _ _ _ h=>h) hS0 rfl rfl (fun w' hSw=>by have q0:=Za.cell hSw.2 0;have q1:=Za.cell hSw.2 1;have q2:=Za.cell hSw.2 2;have q3:=Za.cell hSw.2 3;have q4:=Za.cell hSw.2 4;have q5:=Za.cell hSw.2 5;have q6:=Za.cell hSw.2 6;have q7:=Za.cell hSw.2 7;simp at q0 q1 q2 q3 q4 q5 q6 q7;clear hSw;go_simp) ?_;simp only [List.setIfInBounds_toArray,List.set_cons_zero,List.set_cons_succ];clear hS0;refine Zam (i:=4) rfl (by kernel_rfl) (fun K hK=>?_);go_simp;refine (HXX.out _ HBP.out).mono ?_;rintro e wc ⟨⟨y,rfl,hyp,hoy⟩,bb⟩;obtain ⟨r1,r2,r3,rfl⟩:=HY.out y hyp;obtain ⟨s1,k1,e1⟩:=Zae hoy.1;obtain ⟨s2,k2,e2⟩:=Zae hoy.2.1;obtain ⟨s3,k3,e3⟩:=Zae hoy.2.2;dsimp only at e1 e2 e3;subst e1 e2 e3;have HBC:Hid (Below _ _ _):=HBP.out.trans (bb.mono HBP.out.size);have HCC:Hid (Za _ _ _ _):=HCP.out.below bb HCP.out.lt;have HZC:Hid (Za _ _ _ _):=HZP.out.below bb HZP.out.lt;have HPC:Hid (Za _ _ _ _):=HPP.out.below bb HPP.out.lt;have HOC:Hid (wc.ownsRow w.heap.size 57 8 (.slice (some ⟨g,0,none⟩) l.length c2) l.length ((dn++l.drop j).flatMap pvC)):=own_below HOP.out bb;have HEC:Hid (wc.ownsRow w.heap.size 129 2 (.slice a1 lk c1) lk xe):=own_below HOE.out bb;have HYC:Hid (∀ y∈dn,Zak w.heap.size wc y):=fun y hy=>(HYP.out y hy).below bb;have HY1:Hid (Zak w.heap.size wc ⟨⟨N,xa,xi,T,es,is,ps⟩,(.slice s1 es.length k1),(.slice s2 is.length k2),(.slice s3 ps.length k3),fi⟩):=hoy.lower HBP.out.size;have HNN:=HNX.out _ hyp;have HN1:Hid ((dn++[(⟨⟨N,xa,xi,T,es,is,ps⟩,(.slice s1 es.length k1),(.slice s2 is.length k2),(.slice s3 ps.length k3),fi⟩:PV)]).map PV.plc=(l.take (j+1)).map PV.plc):=HNN.1;have HN2:Hid ((dn++l.drop j).set j ⟨⟨N,xa,xi,T,es,is,ps⟩,(.slice s1 es.length k1),(.slice s2 is.length k2),(.slice s3 ps.length k3),fi⟩=(dn++[(⟨⟨N,xa,xi,T,es,is,ps⟩,(.slice s1 es.length k1),(.slice s2 is.length k2),(.slice s3 ps.length k3),fi⟩:PV)])++l.drop (j+1)):=HNN.2;clear bb HBP HCP HZP HPP HOP HOE HYP hoy hyp HNN HNX HXX HY;dsimp only [PV.val] at *;go_simp;refine hK.out _ _ ⟨HCC.out,HPC.out⟩ (fun _=>?_);clear hK K;refine Zaa 5 28 (.pointer (some ⟨g,j*8,none⟩)) rfl (by kernel_rfl) (fun _ _ _ h=>h) (show _∧_ from ⟨HCC.out,HPC.out⟩) rfl rfl (fun w' hSw=>by clear hSw;go_simp) ?_;simp only [List.setIfInBounds_toArray,List.set_cons_zero,List.set_cons_succ];refine Zbo (x:=6) rfl (by kernel_rfl) (by kernel_rfl) (fun K hK=>?_);obtain ⟨hop,hgp⟩:=HPUT.out wc ⟨⟨N,xa,xi,T,es,is,ps⟩,(.slice s1 es.length k1),(.slice s2 is.length k2),(.slice s3 ps.length k3),fi⟩ HOC.out;rw [HN2.out] at hop;dsimp only at hop hgp;have HOPP:Hid _:=hop;have HGPP:Hid _:=hgp;have hln:(l.length*8:Nat)=l.length*8:=rfl;have hat2:∀ i,i<8→∃ u,wc.cell? ⟨g,j*8+i,none⟩=some u:=fun i hi=>by
    have h1:=HOC.out.cellAt (j*8+i) (by omega);have h2:j*8+i<((dn++l.drop j).flatMap pvC).length:=by rw [HOC.out.1];omega
    exact ⟨_,h1.trans (List.getElem?_eq_getElem h2)⟩
   obtain ⟨u0,e0⟩:=hat2 0 (by omega);rw [Nat.add_zero] at e0;obtain ⟨u1',e1⟩:=hat2 1 (by omega);obtain ⟨u2',e2⟩:=hat2 2 (by omega);obtain ⟨u3',e3⟩:=hat2 3 (by omega);obtain ⟨u4',e4⟩:=hat2 4 (by omega);obtain ⟨u5',e5⟩:=hat2 5 (by omega);obtain ⟨u6',e6⟩:=hat2 6 (by omega);obtain ⟨u7',e7⟩:=hat2 7 (by omega);have f0:=HOC.out.frozenAt (j*8);have f1:=HOC.out.frozenAt (j*8+1);have f2:=HOC.out.frozenAt (j*8+2);have f3:=HOC.out.frozenAt (j*8+3);have f4:=HOC.out.frozenAt (j*8+4);have f5:=HOC.out.frozenAt (j*8+5);have f6:=HOC.out.frozenAt (j*8+6);have f7:=HOC.out.frozenAt (j*8+7);clear hat2 hop hgp hln;go_simp;refine hK.out _ _ ?_;refine NoPanic.normal ?_;clear hK K;clear e0 e1 e2 e3 e4 e5 e6 e7 f0 f1 f2 f3 f4 f5 f6 f7;have HB9:Hid (Below _ _ _):=HBC.out.grown HGPP.out HBC.out.size (fun q hq=>by obtain rfl:=Option.some.inj hq;exact hg);have HC9:Hid (Za _ _ _ _):=HCC.out.kept HGPP.out (fun e=>Zao HOC.out HCC.out (by decide) (by rw [Option.some.inj e];rfl));have HZ9:Hid (Za _ _ _ _):=HZC.out.kept HGPP.out (fun e=>Zao HOC.out HZC.out (by decide) (by rw [Option.some.inj e];rfl));have HE9:Hid (((((((((wc.setCell ⟨g,j*8,none⟩ (.string N)).setCell ⟨g,j*8+1,none⟩ (.int .i64 xa)).setCell ⟨g,j*8+2,none⟩ (.int .i64 xi)).setCell ⟨g,j*8+3,none⟩ (.string T)).setCell ⟨g,j*8+4,none⟩ (.slice s1 es.length k1)).setCell ⟨g,j*8+5,none⟩ (.slice s2 is.length k2)).setCell ⟨g,j*8+6,none⟩ (.slice s3 ps.length k3)).setCell ⟨g,j*8+7,none⟩ (.int .i64 fi)).ownsRow w.heap.size 129 2 (.slice a1 lk c1) lk xe):=ZaN HEC.out HOC.out (by decide) HGPP.out;have HY9:Hid (∀ y∈dn++[(⟨⟨N,xa,xi,T,es,is,ps⟩,(.slice s1 es.length k1),(.slice s2 is.length k2),(.slice s3 ps.length k3),fi⟩:PV)],Zak w.heap.size ((((((((wc.setCell ⟨g,j*8,none⟩ (.string N)).setCell ⟨g,j*8+1,none⟩ (.int .i64 xa)).setCell ⟨g,j*8+2,none⟩ (.int .i64 xi)).setCell ⟨g,j*8+3,none⟩ (.string T)).setCell ⟨g,j*8+4,none⟩ (.slice s1 es.length k1)).setCell ⟨g,j*8+5,none⟩ (.slice s2 is.length k2)).setCell ⟨g,j*8+6,none⟩ (.slice s3 ps.length k3)).setCell ⟨g,j*8+7,none⟩ (.int .i64 fi)) y):=fun y hy=>by
    rcases List.mem_append.1 hy with hy | hy
    ·exact (HYC.out y hy).beside HOC.out HGPP.out
    ·obtain rfl:=List.mem_singleton.1 hy
     exact HY1.out.beside HOC.out HGPP.out
   go_wp2_with fail
   go_roundg (l.length-(j+1))
   case measure=>
    have:=HGK.out
    omega
   case rel=>exact ⟨j+1,dn++[(⟨⟨N,xa,xi,T,es,is,ps⟩,(.slice s1 es.length k1),(.slice s2 is.length k2),(.slice s3 ps.length k3),fi⟩:PV)],(rfl:l.length-(j+1)=l.length-(j+1)),by omega,by go_num,by rw [List.length_append,hdn];rfl,HN1,HOPP,HY9,HE9,HC9,HZ9,HB9⟩
  ·obtain rfl:j=l.length:=by omega
   have hdr:dn++l.drop l.length=dn:=by rw [List.drop_length,List.append_nil]
   rw [hdr] at HO2;rw [List.take_length] at HPL;clear HC HGK hdr;have HCq:Hid _:=C;have HZq:Hid _:=Zz;have HBq:Hid _:=B;have q0:=Za.cell C 0;have q1:=Za.cell C 1;have q2:=Za.cell C 2;have q3:=Za.cell C 3;have z0:=Za.cell Zz 0;have z1:=Za.cell Zz 1;have z2:=Za.cell Zz 2;have z3:=Za.cell Zz 3;have f0:=Za.frozen Zz 0;have f1:=Za.frozen Zz 1;have f2:=Za.frozen Zz 2;have f3:=Za.frozen Zz 3;have lz:=Za.lt Zz;simp at q0 q1 q2 q3 z0 z1 z2 z3;clear C Zz B;go_wp2;have hZ9:=sets4 HZq.out (.int .i64 ma) (.int .i64 mi) (.slice a1 lk c1) (.slice a2 l.length c2);have hG9:=Zat wr (w.heap.size+1) (.int .i64 ma) (.int .i64 mi) (.slice a1 lk c1) (.slice a2 l.length c2);refine bodyPost_ret (results_cell_row rfl _ _ _ _ _ _ _ rfl hZ9 Tryz.underlying27 rfl (by kernel_rfl)) rfl ?_;refine ⟨⟨_,dn,rfl,HPL.out,_,_,rfl,?_,?_,fun x hx=>(HYS.out x hx).ZbM HZq.out (by decide) (by decide) (by decide) hG9⟩,HBq.out.grown hG9 HBq.out.size (fun q hq=>by obtain rfl:=Option.some.inj hq;exact Nat.le_succ _)⟩
   ·have:=HO1.out.kept hG9 (.inr (Zao HO1.out HZq.out (by decide)))
    dsimp only;rw [hlk,hxe];exact this
   ·have:=HO2.out.kept hG9 (.inr (Zao HO2.out HZq.out (by decide)))
    rw [hdn];exact this
end Go.Proofs.YtlpnfbpgnfappaaGreat
namespace Go.Proofs.YtlpnfbpgnfappaaGreat
open Go.ChangeShapes Go.WideShapes Go.ChangeAt Go.RowKit Go.PlainAid Go.Deep
theorem list7 {α:Type} {l:List α} (h:l.length=7):∃ a b c d e f g,l=[a,b,c,d,e,f,g]:=by
 match l,h with
 | [a,b,c,d,e,f,g],_=>exact ⟨a,b,c,d,e,f,g,rfl⟩
theorem list4 {α:Type} {l:List α} (h:l.length=4):∃ a b c d,l=[a,b,c,d]:=by
 match l,h with
 | [a,b,c,d],_=>exact ⟨a,b,c,d,rfl⟩
theorem list2 {α:Type} {l:List α} (h:l.length=2):∃ a b,l=[a,b]:=by
 match l,h with
 | [a,b],_=>exact ⟨a,b,rfl⟩
section
variable {H : Type} {enc : TypeId × Value → H} {W : World} {spare : Nat → Bool} {held : Bool}
theorem str_of_trod {n:Nat} {c:Value} {y:DataW H × List MemPlace} (h:DataW.trod enc Tryz.prog W 0 spare held n 9 [c]=some y):∃ s:ByteArray,c=.string s∧s.size≤9223372036854775807:=by
 obtain ⟨s,hc,_,hs⟩:=DataW.trod_string Tryz.underlying9 h;injection hc with hc;exact ⟨s,hc,hs⟩
theorem Zby {n:Nat} {c:Value} {y:DataW H × List MemPlace} (h:DataW.trod enc Tryz.prog W 0 spare held n 3 [c]=some y):∃ k:Int,c=.int .i64 k:=by
 obtain ⟨k,hc,_,_⟩:=DataW.trod_int Tryz.underlying3 h;injection hc with hc;exact ⟨k,hc⟩
theorem exp_of_trod (n:Nat) (cs:List Value) (z:DataW H × List MemPlace) (hl:cs.length=2) (h:DataW.trod enc Tryz.prog W 0 spare held n 129 cs=some z):∃ x:Exp,(∀ i,i<2→cs[i]?=some (Exp.cell x i))∧x.name.size≤9223372036854775807:=by
 obtain ⟨xs,m,_,_,_,hlen,hf⟩:=DataW.trod_struct Tryz.underlying129 h;obtain ⟨x0,x1,rfl⟩:=list2 hlen;obtain ⟨c0,c1,rfl⟩:=list2 hl;obtain ⟨s,rfl,hs⟩:=str_of_trod (hf 0 _ rfl);obtain ⟨k,rfl⟩:=Zby (hf 1 _ rfl);refine ⟨⟨s,k⟩,fun i hi=>?_,hs⟩
 have:i=0∨i=1:=by omega
 rcases this with rfl | rfl <;> rfl
theorem imp_of_trod (n:Nat) (cs:List Value) (z:DataW H × List MemPlace) (hl:cs.length=4) (h:DataW.trod enc Tryz.prog W 0 spare held n 106 cs=some z):∃ x:Imp,(∀ i,i<4→cs[i]?=some (Imp.cell x i))∧x.fits:=by
 obtain ⟨xs,m,_,_,_,hlen,hf⟩:=DataW.trod_struct Tryz.underlying106 h;obtain ⟨x0,x1,x2,x3,rfl⟩:=list4 hlen;obtain ⟨c0,c1,c2,c3,rfl⟩:=list4 hl;obtain ⟨s,rfl,hs⟩:=str_of_trod (hf 0 _ rfl);obtain ⟨t,rfl,ht⟩:=str_of_trod (hf 1 _ rfl);obtain ⟨k,rfl⟩:=Zby (hf 2 _ rfl);obtain ⟨j,rfl⟩:=Zby (hf 3 _ rfl);refine ⟨⟨s,t,k,j⟩,fun i hi=>?_,⟨hs,ht⟩⟩
 have:i=0∨i=1∨i=2∨i=3:=by omega
 rcases this with rfl | rfl | rfl | rfl <;> rfl
theorem pat_of_trod (n:Nat) (cs:List Value) (z:DataW H × List MemPlace) (hl:cs.length=4) (h:DataW.trod enc Tryz.prog W 0 spare held n 113 cs=some z):∃ x:Pat,(∀ i,i<4→cs[i]?=some (Pat.cell x i))∧True:=by
 obtain ⟨xs,m,_,_,_,hlen,hf⟩:=DataW.trod_struct Tryz.underlying113 h;obtain ⟨x0,x1,x2,x3,rfl⟩:=list4 hlen;obtain ⟨c0,c1,c2,c3,rfl⟩:=list4 hl;obtain ⟨a,rfl⟩:=Zby (hf 0 _ rfl);obtain ⟨b,rfl⟩:=Zby (hf 1 _ rfl);obtain ⟨k,rfl⟩:=Zby (hf 2 _ rfl);obtain ⟨j,rfl⟩:=Zby (hf 3 _ rfl);refine ⟨⟨a,b,k,j⟩,fun i hi=>?_,trivial⟩
 have:i=0∨i=1∨i=2∨i=3:=by omega
 rcases this with rfl | rfl | rfl | rfl <;> rfl
end
section
variable {H : Type} {enc : TypeId × Value → H} {W : World} {spare : Nat → Bool} {held : Bool}
end
theorem list3 {α:Type} {l:List α} (h:l.length=3):∃ a b c,l=[a,b,c]:=by
 match l,h with
 | [a,b,c],_=>exact ⟨a,b,c,rfl⟩
theorem list8 {α:Type} {l:List α} (h:l.length=8):∃ a b c d e f g k,l=[a,b,c,d,e,f,g,k]:=by
 match l,h with
 | [a,b,c,d,e,f,g,k],_=>exact ⟨a,b,c,d,e,f,g,k,rfl⟩
section
variable {H : Type} {enc : TypeId × Value → H} {W : World} {spare : Nat → Bool} {held : Bool}
end
end Go.Proofs.YtlpnfbpgnfappaaGreat
