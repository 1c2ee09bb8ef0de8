/- Texts that are laid together. -/
import Derived.Test.YtlpnfbpgnfappaaGreatMrgK
import Derived.Test.YtlpnfbpgnfappaaGreatMrgN
import Derived.Test.YtlpnfbpgnfappaaGreatMrgH
import Derived.Test.YtlpnfbpgnfappaaGreatMrgA
import Derived.Test.YtlpnfbpgnfappaaGreatMrgI
import Derived.Laws.ResultCell
import Derived.Test.YtlpnfbpgnfappaaGreatMrgJ
set_option maxHeartbeats 256000000
set_option maxRecDepth 100000

namespace Go.Proofs.YtlpnfbpgnfappaaGreat
open Go.RowKit Go.PlainAid Go.Lib
theorem ix_at {α:Type} (p:α→Bool):∀ (l:List α) (k j:Nat) (x:α),l[j]?=some x→p x=true→(∀ i y,i<j→l[i]?=some y→p y=false)→Zag p k l=((k+j:Nat):Int)
 | [],_,_,_,h,_,_=>by simp at h
 | y::l,k,0,x,h,hx,_=>by
  obtain rfl:y=x:=by simpa using h
  unfold Zag;rw [if_pos hx]
  rfl
 | y::l,k,j+1,x,h,hx,hi=>by
  unfold Zag;rw [if_neg (by rw [hi 0 y (by omega) rfl];decide),ix_at p l (k+1) j x (by simpa using h) hx (fun i z h1 h2=>hi (i+1) z (by omega) (by simpa using h2))]
  congr 1;omega
theorem ix_none {α:Type} (p:α→Bool) (l:List α) (k:Nat) (h:∀ y∈l,p y=false):Zag p k l = -1:=by
 rcases ix_find p l k with ⟨_,h2⟩ | ⟨j,x,_,h2,_⟩
 ·exact h2
 ·rcases ix_find p l k with ⟨_,h3⟩ | ⟨j',x',h3,_,_⟩
  ·exact h3
  ·have:=List.find?_some h3
   rw [h x' (List.mem_of_find?_eq_some h3)] at this
   cases this
theorem cpFirst1_any (B:Nat) (f:Int) (x:PV) (w:World) (hlt:B<w.heap.size) (hB:w.cell? ⟨B,0,none⟩=some (.int .i64 f)) (hat:ZbH w.heap.size w x) :
  Calls Tryz.prog 114 #[x.val,.pointer (some ⟨B,0,none⟩)] w fun e w'=>e=.returned (.bool (decide (f<x.first)))∧Below w.heap.size w w':=by
 obtain ⟨⟨pe,ke,e4,_⟩,⟨pi,ki,e5,_⟩,⟨pp,kp,e6,_⟩⟩:=hat;obtain ⟨⟨N,ma,mi,T,es,is,ps⟩,ve,vi,vp,fi⟩:=x;dsimp only at e4 e5 e6;subst e4 e5 e6;dsimp only [PV.val];generalize es.length=le at *;generalize is.length=li at *;generalize ps.length=lp at *
 go_enter Tryz.func114,Tryz.ntmps114
 go_wp2;go_ret;exact ⟨rfl,(Below.refl _ _).alloc (Nat.le_refl _) _⟩
def PV.at (x:PV) (f:Int):PV:=⟨x.mod,x.ve,x.vi,x.vp,f⟩
theorem own_first {W:World} {base g n cap:Nat} {l:List PV} {j:Nat} {x:PV} (h:W.ownsRow base 57 8 (.slice (some ⟨g,0,none⟩) n cap) n (l.flatMap pvC)) (hx:l[j]?=some x) (f:Int) :
  (W.setCell ⟨g,j*8+7,none⟩ (.int .i64 f)).ownsRow base 57 8 (.slice (some ⟨g,0,none⟩) n cap) n ((l.set j (x.at f)).flatMap pvC)∧W.grownBy (W.setCell ⟨g,j*8+7,none⟩ (.int .i64 f)) (some g):=by
 obtain ⟨o,gr⟩:=h.stored (j*8+7) (.int .i64 f);rw [flat_put (C:=pvC) (sz:=8) (fun _=>rfl) l j x (x.at f) 7 (.int .i64 f) hx (by omega) rfl] at o;exact ⟨o,gr⟩
theorem plc_rows {base:Nat} {W:World} {l:List PV} (hP:∀ x∈l,Zak base W x) (h:∀ x∈l,x.mod.exps.length≤255∧x.mod.imps.length≤255∧x.mod.pats.length≤255):∀ x∈l,ZbH W.heap.size W x:=fun x hx=>(hP x hx).plcAt (h x hx).1 (h x hx).2.1 (h x hx).2.2
theorem reg_lens {l:List PV} (h0:Zas (l.map PV.plc)=0):l.length≤8∧∀ x∈l,x.mod.exps.length≤255∧x.mod.imps.length≤255∧x.mod.pats.length≤255:=by
 obtain ⟨h1,h2,_⟩:=ZaO.1 h0;rw [List.length_map] at h1;refine ⟨h1,fun x hx=>?_⟩
 have:=Zbl (h2 x.plc (List.mem_map_of_mem hx))
 have e:x.plc.mod=x.mod:=rfl;rw [e] at this
 omega
def Moved (w:World) (vl:Value) (w':World):Prop:=∃ w1,Below w.heap.size w w1∧w1.grownBy w' vl.ownBlock
theorem cpStep_any (K:Ker) (l:List PV) (ve vl:Value) (base Bp:Nat) (w:World) (hc:Za w Bp 147 #[.int .i64 K.major,.int .i64 K.minor,ve,vl]) (hL:w.ownsRow base 57 8 vl l.length (l.flatMap pvC)) (hP:∀ x∈l,Zak base w x) (hfit:∀ x∈l,x.mod.fits) (h0:Zas (l.map PV.plc)=0) :
  Calls Tryz.prog 63 #[.pointer (some ⟨Bp,0,none⟩)] w fun e w'=>
   (stepFrom 0 (l.map PV.plc)=none∧e=.returned (.bool false)∧Below w.heap.size w w')∨
   (∃ l':List PV,stepFrom 0 (l.map PV.plc)=some (l'.map PV.plc)∧l'.map (·.mod)=l.map (·.mod)∧e=.returned (.bool true)∧Za w' Bp 147 #[.int .i64 K.major,.int .i64 K.minor,ve,vl]∧w'.ownsRow base 57 8 vl l'.length (l'.flatMap pvC)∧(∀ x∈l',Zak base w' x)∧Moved w vl w'):=by
 obtain ⟨h8,hlens⟩:=reg_lens h0;have hrows:Zax w.heap.size w vl l:=⟨ZbX (C:=pvC) (cells:=PV.cell) (sz:=8) (fun _=>rfl) pvC_at hL (by omega),plc_rows hP hlens⟩;have HFR:Hid (Calls Tryz.prog 19 #[vl] w fun e w'=>(∃ r,e=.returned (.tuple #[r,.int .i64 0])∧Zal 2 Zbu w'.heap.size w' r (runsFrom 0 (l.map PV.plc)))∧Below w.heap.size w w'):=by
  have:=free_any l vl w hrows hfit
  rw [h0,show ZbJ (l.map PV.plc)=runsFrom 0 (l.map PV.plc) from if_pos h0] at this;exact this
 have HIX:Hid (∀ W B f,Below w.heap.size w W→B<W.heap.size→W.cell? ⟨B,0,none⟩=some (.int .i64 f)→Calls Tryz.prog 79 #[vl,.func (.func 114) #[] #[.pointer (some ⟨B,0,none⟩)]] W fun e w'=>e=.returned (.int .i64 (Zag (fun x:PV=>decide (f<x.first)) 0 l))∧Below W.heap.size W w'):=by
  intro W B f hb hlt hB;exact ixPlc_any l vl 114 (.pointer (some ⟨B,0,none⟩)) (fun w x=>enters_of Tryz.func114 (by kernel_rfl) rfl _ w) _ W ((hrows.1.below hb).more hb.size) (fun x hx W' hb'=>cpFirst1_any B f x W' (Nat.lt_of_lt_of_le hlt hb'.size) ((hb'.cell (p:=⟨B,0,none⟩) hlt).trans hB) ((((((hrows.2 x hx).below hb).more hb.size)).below hb').more hb'.size))
 have hok:=(ZaO.1 h0).2.2;obtain ⟨va,vc,rfl⟩:=Zae hL;have HL:Hid (w.ownsRow base 57 8 (.slice va l.length vc) l.length (l.flatMap pvC)):=hL;have HP:Hid (∀ x∈l,Zak base w x):=hP;have HC:Hid (Za w Bp 147 #[.int .i64 K.major,.int .i64 K.minor,ve,.slice va l.length vc]):=hc;have q3:=Za.cell hc 3;have ql:=Za.lt hc;simp at q3
 rcases step_run hok with ⟨hs,hr⟩ | ⟨r,rs,j,p,hr,hr0,hj,hlt,hbef,hs⟩
 ·have HS:Hid (stepFrom 0 (l.map PV.plc)=none):=hs
  rcases hr with hr | ⟨r,rs,hr,hr0,hall⟩
  ·rw [hr] at HFR
   clear hr hs hrows hL hP hc hok h0 HIX
   go_enter Tryz.func63,Tryz.ntmps63
   go_wp2_with fail;refine HFR.out.mono ?_;rintro e w2 ⟨⟨rv,rfl,hrun⟩,b2⟩;obtain ⟨ra,rc,rfl,_,_⟩:=hrun;have HB2:Hid (Below w.heap.size w w2):=b2;clear b2 HFR q3 ql;rw [show ([]:List (Int × Int)).length=0 from rfl];go_wp2;go_ret;exact .inl ⟨HS.out,rfl,HB2.out⟩
  ·rw [hr] at HFR
   have HIN:Hid (Zag (fun x:PV=>decide (r.1<x.first)) 0 l = -1):=ix_none _ _ _ fun y hy=>decide_eq_false (by
    have:=hall y.plc (List.mem_map_of_mem hy)
    have e:y.plc.first=y.first:=rfl
    omega)
   clear hr hs hrows hL hP hc hok h0 hall
   go_enter Tryz.func63,Tryz.ntmps63
   go_wp2_with fail;refine HFR.out.mono ?_;rintro e w2 ⟨⟨rv,rfl,hrun⟩,b2⟩;obtain ⟨ra,rc,rfl,_,hrow⟩:=hrun;have HB2:Hid (Below w.heap.size w w2):=b2;have HC2:Hid (Za _ _ _ _):=HC.out.below b2 HC.out.lt
   rcases hrow with h | ⟨rb,roff,rfl,hrb,hrc⟩
   ·cases h
   have c0:w2.cell? ⟨rb,roff,none⟩=some (.int .i64 r.1):=hrc 0 r rfl 0 (by omega);have hrl:(0:Int)<((r::rs).length:Int):=by simp
   have hrl2:¬ ((r::rs).length=0):=by simp
   generalize (r::rs).length=nr at *;clear b2 HFR q3 ql hrc hrb;go_upto_region 5 with fail;have HB3:Hid (Below w.heap.size w (w2.alloc (.cells #[.int .i64 r.1] 3))):=HB2.out.alloc HB2.out.size _;have HC3:Hid (Za (w2.alloc (.cells #[.int .i64 r.1] 3)) Bp 147 #[.int .i64 K.major,.int .i64 K.minor,ve,.slice va l.length vc]):=HC2.out.kept (World.grownBy_alloc _ _ none) (by simp);have HF3:Hid (Za (w2.alloc (.cells #[.int .i64 r.1] 3)) w2.heap.size 3 #[.int .i64 r.1]):=Za.new _ _ _;generalize (w2.alloc (.cells #[.int .i64 r.1] 3))=w3 at *;have q3:=Za.cell HC3.out 3;have ql:=Za.lt HC3.out;simp at q3;go_wp2_with fail;refine (HIX.out _ _ _ HB3.out HF3.out.lt (HF3.out.cell 0)).mono ?_;rintro e w4 ⟨rfl,b4⟩;rw [HIN.out];have HB4:Hid (Below _ _ _):=HB3.out.trans (b4.mono HB3.out.size);clear b4 HIX HF3 HC3 HC2 HB3 HB2 q3 ql c0 hrl hrl2;go_wp2;go_ret;exact .inl ⟨HS.out,rfl,HB4.out⟩
 ·obtain ⟨x,hx,rfl⟩:∃ x,l[j]?=some x∧x.plc=p:=by
   rw [List.getElem?_map] at hj
   cases hlj:l[j]? with
   | none=>rw [hlj] at hj;cases hj
   | some x=>rw [hlj] at hj;exact ⟨x,rfl,by simpa using hj⟩
  have HS:Hid (stepFrom 0 (l.map PV.plc)=some ((l.set j (x.at r.1)).map PV.plc)):=by
   show stepFrom _ _=_
   rw [hs,List.map_set]
   rfl
  have HMM:Hid ((l.set j (x.at r.1)).map (·.mod)=l.map (·.mod)):=by
   show _=_
   rw [List.map_set]
   apply List.ext_getElem?
   intro i;rw [List.getElem?_set]
   by_cases hij:j=i
   ·subst hij
    rw [if_pos rfl,if_pos (by rw [List.length_map];exact (List.getElem?_eq_some_iff.1 hx).1),List.getElem?_map,hx]
    rfl
   ·rw [if_neg hij]
  have HIN:Hid (Zag (fun x:PV=>decide (r.1<x.first)) 0 l=(j:Int)):=by
   have:=ix_at (fun x:PV=>decide (r.1<x.first)) l 0 j x hx (decide_eq_true hlt) (fun i y hi hy=>decide_eq_false (by
    have:=hbef i y.plc hi (by rw [List.getElem?_map,hy];rfl)
    have e:y.plc.first=y.first:=rfl
    omega))
   rw [Nat.zero_add] at this;exact this
  have hjl:j<l.length:=(List.getElem?_eq_some_iff.1 hx).1;have HX:Hid (l[j]?=some x):=hx;rw [hr] at HFR;clear hr hs hrows hL hP hc hok h0 hbef hlt hj hx
  go_enter Tryz.func63,Tryz.ntmps63
  go_wp2_with fail;refine HFR.out.mono ?_;rintro e w2 ⟨⟨rv,rfl,hrun⟩,b2⟩;obtain ⟨ra,rc,rfl,_,hrow⟩:=hrun;have HB2:Hid (Below w.heap.size w w2):=b2;have HC2:Hid (Za _ _ _ _):=HC.out.below b2 HC.out.lt
  rcases hrow with h | ⟨rb,roff,rfl,hrb,hrc⟩
  ·cases h
  have c0:w2.cell? ⟨rb,roff,none⟩=some (.int .i64 r.1):=hrc 0 r rfl 0 (by omega);have hrl:(0:Int)<((r::rs).length:Int):=by simp
  have hrl2:¬ ((r::rs).length=0):=by simp
  generalize (r::rs).length=nr at *;clear b2 HFR q3 ql hrc hrb;go_upto_region 5 with fail;have HB3:Hid (Below w.heap.size w (w2.alloc (.cells #[.int .i64 r.1] 3))):=HB2.out.alloc HB2.out.size _;have HC3:Hid (Za (w2.alloc (.cells #[.int .i64 r.1] 3)) Bp 147 #[.int .i64 K.major,.int .i64 K.minor,ve,.slice va l.length vc]):=HC2.out.kept (World.grownBy_alloc _ _ none) (by simp);have HF3:Hid (Za (w2.alloc (.cells #[.int .i64 r.1] 3)) w2.heap.size 3 #[.int .i64 r.1]):=Za.new _ _ _;generalize (w2.alloc (.cells #[.int .i64 r.1] 3))=w3 at *;generalize w2.heap.size=BF at *;have q3:=Za.cell HC3.out 3;have ql:=Za.lt HC3.out;simp at q3;go_wp2_with fail;refine (HIX.out _ _ _ HB3.out HF3.out.lt (HF3.out.cell 0)).mono ?_;rintro e w4 ⟨rfl,b4⟩;rw [HIN.out];have HB4:Hid (Below w.heap.size w w4.drew):=(HB3.out.trans (b4.mono HB3.out.size)).drew;have HC4:Hid (Za w4.drew Bp 147 #[.int .i64 K.major,.int .i64 K.minor,ve,.slice va l.length vc]):=(HC3.out.below b4 HC3.out.lt:Za w4 _ _ _);have HF4:Hid (Za w4.drew BF 3 #[.int .i64 r.1]):=(HF3.out.below b4 HF3.out.lt:Za w4 _ _ _);clear b4 HIX HF3 HC3 HC2 HB3 HB2 q3 ql c0 hrl hrl2;obtain ⟨g,gc,ea,-⟩:∃ g c9,Value.slice va l.length vc=.slice (some ⟨g,0,none⟩) l.length c9∧True:=by
   rcases HL.out.2 with ⟨_,hn⟩ | ⟨g,c9,cur,e,_⟩
   ·omega
   ·exact ⟨g,c9,e,trivial⟩
  injection ea with ea1 ea2 ea3;subst ea1 ea3;have hjn:(j:Int)<(l.length:Int):=by omega
  have hj0:¬ ((j:Int)<0):=by omega
  go_upto_region 8 with fail;refine wp_region_noPanic ?_;refine Zba (S:=fun w'=>Za w' Bp 147 #[.int .i64 K.major,.int .i64 K.minor,ve,.slice (some ⟨g,0,none⟩) l.length vc]∧Za w' BF 3 #[.int .i64 r.1]) (x:=9) (by kernel_rfl) ?_;generalize w4.drew=w5 at *;have hS0:Za w5 Bp 147 #[.int .i64 K.major,.int .i64 K.minor,ve,.slice (some ⟨g,0,none⟩) l.length vc]∧Za w5 BF 3 #[.int .i64 r.1]:=⟨HC4.out,HF4.out⟩;refine Zaa 0 32 (.pointer (some ⟨Bp,0,none⟩)) rfl (by kernel_rfl) (fun _ _ _ h=>h) hS0 rfl rfl (fun w' hSw=>by clear hSw;go_simp) ?_;simp only [List.setIfInBounds_toArray,List.set_cons_zero,List.set_cons_succ];refine Zaa 1 33 (.pointer (some ⟨Bp,0,none⟩)) rfl (by kernel_rfl) (fun _ _ _ h=>h) hS0 rfl rfl (fun w' hSw=>by clear hSw;go_simp) ?_;simp only [List.setIfInBounds_toArray,List.set_cons_zero,List.set_cons_succ];refine Zaa 2 34 (.pointer (some ⟨Bp,0,none⟩)) rfl (by kernel_rfl) (fun _ _ _ h=>h) hS0 rfl rfl (fun w' hSw=>by clear hSw;go_simp) ?_;simp only [List.setIfInBounds_toArray,List.set_cons_zero,List.set_cons_succ];refine Zaa 3 35 (.pointer (some ⟨Bp,3,none⟩)) rfl (by kernel_rfl) (fun _ _ _ h=>h) hS0 rfl rfl (fun w' hSw=>by clear hSw;go_simp) ?_;simp only [List.setIfInBounds_toArray,List.set_cons_zero,List.set_cons_succ];refine Zaa 4 36 (.slice (some ⟨g,0,none⟩) l.length vc) rfl (by kernel_rfl) (fun _ _ _ h=>h) hS0 rfl rfl (fun w' hSw=>by have q:=Za.cell hSw.1 3;simp at q;clear hSw;go_simp) ?_;simp only [List.setIfInBounds_toArray,List.set_cons_zero,List.set_cons_succ];refine Zaa 5 37 (.int .i64 (j:Int)) rfl (by kernel_rfl) (fun _ _ _ h=>h) hS0 rfl rfl (fun w' hSw=>by clear hSw;go_simp) ?_;simp only [List.setIfInBounds_toArray,List.set_cons_zero,List.set_cons_succ];refine Zaa 6 38 (.int .i64 r.1) rfl (by kernel_rfl) (fun _ _ _ h=>h) hS0 rfl rfl (fun w' hSw=>by have q:=Za.cell hSw.2 0;simp at q;clear hSw;go_simp) ?_;simp only [List.setIfInBounds_toArray,List.set_cons_zero,List.set_cons_succ];refine Zaa 7 39 (.pointer (some ⟨g,j*8,none⟩)) rfl (by kernel_rfl) (fun _ _ _ h=>h) hS0 rfl rfl (fun w' hSw=>by clear hSw;go_simp) ?_;simp only [List.setIfInBounds_toArray,List.set_cons_zero,List.set_cons_succ];refine Zaa 8 40 (.pointer (some ⟨g,j*8+7,none⟩)) rfl (by kernel_rfl) (fun _ _ _ h=>h) hS0 rfl rfl (fun w' hSw=>by clear hSw;go_simp) ?_;simp only [List.setIfInBounds_toArray,List.set_cons_zero,List.set_cons_succ];clear hS0;have hL5:=own_below HL.out HB4.out;have HL5:Hid (w5.ownsRow base 57 8 (.slice (some ⟨g,0,none⟩) l.length vc) l.length (l.flatMap pvC)):=hL5;have HP5:Hid (∀ x∈l,Zak base w5 x):=fun x hx=>(HP.out x hx).below HB4.out;have e7:=hL5.cellAt (j*8+7) (by omega);have f7:=hL5.frozenAt (j*8+7);have e7':∃ u,w5.cell? ⟨g,j*8+7,none⟩=some u:=⟨_,e7.trans (List.getElem?_eq_getElem (by rw [hL5.1];omega))⟩;obtain ⟨u7,e8⟩:=e7';clear e7 hL5;refine Zbo (x:=9) rfl (by kernel_rfl) (by kernel_rfl) (fun K hK=>?_);go_simp;refine hK.out _ _ ?_;refine NoPanic.normal ?_;clear hK K e8 f7;obtain ⟨hO9,hG9⟩:=own_first HL5.out HX.out r.1;have HO9:Hid _:=hO9;have HG9:Hid _:=hG9;clear hO9 hG9;have HC9:Hid (Za (w5.setCell ⟨g,j*8+7,none⟩ (.int .i64 r.1)) Bp 147 #[.int .i64 K.major,.int .i64 K.minor,ve,.slice (some ⟨g,0,none⟩) l.length vc]):=ZaB HC4.out HL5.out (by decide) HG9.out;have HP9:Hid (∀ y∈l.set j (x.at r.1),Zak base (w5.setCell ⟨g,j*8+7,none⟩ (.int .i64 r.1)) y):=fun y hy=>by
   rcases List.mem_or_eq_of_mem_set hy with hy | rfl
   ·exact (HP5.out y hy).beside HL5.out HG9.out
   ·have:=(HP5.out x (List.mem_of_getElem? HX.out)).beside HL5.out HG9.out
    exact ⟨this.1,this.2.1,this.2.2⟩
  go_wp2;go_ret;refine .inr ⟨l.set j (x.at r.1),HS.out,HMM.out,rfl,HC9.out,?_,HP9.out,w5,HB4.out,HG9.out⟩;rw [List.length_set];exact HO9.out
end Go.Proofs.YtlpnfbpgnfappaaGreat
namespace Go.Proofs.YtlpnfbpgnfappaaGreat
open Go.RowKit Go.PlainAid
theorem bt_app_left {a b:ByteArray} {i:Nat} (h:i<a.size):bt (a++b) i=bt a i:=by
 rw [bt_list,bt_list,bytes_app,List.getElem?_append_left (by rw [← size_list];exact h)]
theorem bt_app_right {a b:ByteArray} {i:Nat} (h:a.size≤i):bt (a++b) i=bt b (i-a.size):=by
 rw [bt_list,bt_list,bytes_app,List.getElem?_append_right (by rw [← size_list];exact h),← size_list]
theorem bt_blanks {n i:Nat} (h:i<n):bt (blanks n) i=255:=by
 rw [bt_list,blanks_list,List.getElem?_replicate,if_pos h]
 rfl
theorem bt_fill_left {s:ByteArray} {n i:Nat} (h:i<s.size):bt (Zaz s n) i=bt s i:=bt_app_left h
theorem bt_fill_right {s:ByteArray} {n i:Nat} (h:s.size≤i) (hn:i<n):bt (Zaz s n) i=255:=by
 unfold Zaz;rw [bt_app_right h,bt_blanks (by omega)]
theorem width_nonneg (k:Int):0≤width k:=by
 unfold width
 split
 ·omega
 ·split
  ·omega
  ·split <;> omega
theorem area_byte {K:Ker} {L:List Plc}:∀ (l:List Plc) (s:ByteArray) (e:Nat),okPl e l→s.size≤64*e→(ZaM K L s l).2=0→
  (ZaM K L s l).1.size=1024∧(∀ i,i<s.size→bt (ZaM K L s l).1 i=bt s i)∧
  (∀ p∈l,(ZaY K L p).2=0∧∀ n,n<64*szM p.mod→bt (ZaM K L s l).1 (64*p.first.toNat+n)=bt (ZaY K L p).1 n)∧
  (∀ i,s.size≤i→i<1024→(∀ p∈l,i<64*p.first.toNat∨64*p.first.toNat+64*szM p.mod≤i)→bt (ZaM K L s l).1 i=255)
 | [],s,e,hok,hs,h=>by
  have he:(e:Int)≤16:=hok;have hn:ZaM K L s []=(Zaz s 1024,0):=rfl;rw [hn];exact ⟨fillTo_size (by omega),fun i hi=>bt_fill_left hi,fun p hp=>absurd hp (by simp),fun i h1 h2 _=>bt_fill_right h1 h2⟩
 | p::r,s,e,hok,hs,h=>by
  obtain ⟨p1,p2,p3,p4⟩:=hok;have hst:ZaM K L s (p::r)=if (ZaY K L p).2≠0 then (⟨#[]⟩,(ZaY K L p).2) else ZaM K L (Zaz s (64*p.first.toNat)++(ZaY K L p).1) r:=rfl
  by_cases h0:(ZaY K L p).2=0
  ·rw [if_neg (by omega)] at hst
   rw [hst] at h ⊢;have hsz:=imgRes_size h0;have hfs:(Zaz s (64*p.first.toNat)).size=64*p.first.toNat:=fillTo_size (by omega)
   have hap:(Zaz s (64*p.first.toNat)++(ZaY K L p).1).size=64*(p.first.toNat+szM p.mod):=by rw [ByteArray.size_append,hfs,hsz];omega
   obtain ⟨g1,g2,g3,g4⟩:=area_byte r _ (p.first.toNat+szM p.mod) (by rw [show ((p.first.toNat+szM p.mod:Nat):Int)=p.first+szM p.mod by omega];exact p4) (by omega) h;refine ⟨g1,fun i hi=>?_,fun q hq=>?_,fun i h1 h2 h3=>?_⟩
   ·rw [g2 i (by omega),bt_app_left (by omega),bt_fill_left hi]
   ·rcases List.mem_cons.1 hq with rfl | hq
    ·refine ⟨h0,fun n hn=>?_⟩
     rw [g2 _ (by omega),bt_app_right (by omega),hfs,Nat.add_sub_cancel_left]
    ·exact g3 q hq
   ·by_cases hi:i<64*(p.first.toNat+szM p.mod)
    ·have:=h3 p (by simp)
     rw [g2 i (by omega),bt_app_left (by omega),bt_fill_right h1 (by omega)]
    ·exact g4 i (by omega) h2 (fun q hq=>h3 q (List.mem_cons_of_mem _ hq))
  ·rw [hst,if_pos h0] at h
   exact absurd h h0
theorem areaOf_zero {K:Ker} {L:List Plc} (h:(ZbY K L).2=0):ZaA K L=0∧ZbY K L=ZaM K L ⟨#[]⟩ L∧(ZaM K L ⟨#[]⟩ L).2=0:=by
 unfold ZbY at h ⊢
 by_cases h0:ZaA K L=0
 ·rw [if_neg (by omega)] at h ⊢
  exact ⟨h0,rfl,h⟩
 ·rw [if_pos h0] at h
  exact absurd h h0
theorem find_mods:∀ {L L':List Plc} (name:ByteArray),L'.map (·.mod)=L.map (·.mod)→
  (L.find? (fun p=>p.mod.name == name)=none∧L'.find? (fun p=>p.mod.name == name)=none)∨∃ p p',L.find? (fun p=>p.mod.name == name)=some p∧L'.find? (fun p=>p.mod.name == name)=some p'∧p'.mod=p.mod∧p∈L∧p'∈L'
 | [],[],_,_=>.inl ⟨rfl,rfl⟩
 | [],_::_,_,h=>by cases h
 | _::_,[],_,h=>by cases h
 | p::l,q::l',name,h=>by
  rw [List.map_cons,List.map_cons] at h;injection h with h1 h2
  cases hb:(p.mod.name == name) with
  | true=>
   have hb':(q.mod.name == name)=true:=by rw [h1];exact hb
   exact .inr ⟨p,q,List.find?_cons_of_pos (p:=fun p:Plc=>p.mod.name == name) hb,List.find?_cons_of_pos (p:=fun p:Plc=>p.mod.name == name) hb',h1,by simp,by simp⟩
  | false=>
   have hb1:¬ (p.mod.name == name)=true:=by rw [hb];decide
   have hb2:¬ (q.mod.name == name)=true:=by rw [h1,hb];decide
   rw [List.find?_cons_of_neg (p:=fun p:Plc=>p.mod.name == name) hb1,List.find?_cons_of_neg (p:=fun p:Plc=>p.mod.name == name) hb2]
   rcases find_mods name h2 with h | ⟨x,y,e1,e2,e3,e4,e5⟩
   ·exact .inl h
   ·exact .inr ⟨x,y,e1,e2,e3,List.mem_cons_of_mem _ e4,List.mem_cons_of_mem _ e5⟩
theorem addr_mods {K:Ker} {L L':List Plc} (h:L'.map (·.mod)=L.map (·.mod)) (i:Imp):(addrOf K L' i).2=(addrOf K L i).2∧((addrOf K L' i).1-(addrOf K L i).1) % 2=0:=by
 unfold addrOf tgtOf
 by_cases hk:(i.mod == kernelName)=true
 ·rw [if_pos hk,if_pos hk]
  exact ⟨rfl,by simp⟩
 ·rw [if_neg hk,if_neg hk]
  rcases find_mods i.mod h with ⟨e1,e2⟩ | ⟨p,p',e1,e2,e3,_,_⟩
  ·rw [e1,e2]
   exact ⟨rfl,by simp⟩
  ·rw [e1,e2]
   dsimp only [Option.map];rw [e3]
   split
   ·exact ⟨rfl,by simp⟩
   ·cases expOf p.mod.exps i.name with
    | none=>exact ⟨rfl,by simp⟩
    | some x=>
     refine ⟨rfl,?_⟩;dsimp only
     omega
def Evens (a b:List Int):Prop:=a.length=b.length∧∀ (j:Nat) (x y:Int),a[j]?=some x→b[j]?=some y→(x-y) % 2=0
theorem Evens.snoc {a b:List Int} {x y:Int} (h:Evens a b) (hxy:(x-y) % 2=0):Evens (a++[x]) (b++[y]):=by
 refine ⟨by simp [h.1],fun j u v hu hv=>?_⟩
 by_cases hj:j<a.length
 ·rw [List.getElem?_append_left hj] at hu
  rw [List.getElem?_append_left (by rw [← h.1];exact hj)] at hv;exact h.2 j u v hu hv
 ·rw [List.getElem?_append_right (by omega)] at hu
  rw [List.getElem?_append_right (by rw [← h.1];omega)] at hv;have hj0:j-a.length=0:=by
   have:=(List.getElem?_eq_some_iff.1 hu).1
   simp at this
   omega
  rw [hj0] at hu;rw [← h.1,hj0] at hv;simp at hu hv;rw [← hu,← hv];exact hxy
theorem addrs_mods {K:Ker} {L L':List Plc} (h:L'.map (·.mod)=L.map (·.mod)):∀ (is:List Imp) (a b:List Int),Evens a b→(ZaF K L' a is).2=(ZaF K L b is).2∧Evens (ZaF K L' a is).1 (ZaF K L b is).1
 | [],a,b,hab=>⟨rfl,hab⟩
 | i::r,a,b,hab=>by
  have hs:∀ L a,ZaF K L a (i::r)=if (addrOf K L i).2≠0 then ([],(addrOf K L i).2) else ZaF K L (a++[(addrOf K L i).1]) r:=fun _ _=>rfl;obtain ⟨h1,h2⟩:=addr_mods (K:=K) h i;rw [hs,hs,h1]
  by_cases h0:(addrOf K L i).2=0
  ·rw [if_neg (by omega),if_neg (by omega)]
   exact addrs_mods h r _ _ (hab.snoc h2)
  ·rw [if_pos h0,if_pos h0]
   exact ⟨rfl,rfl,fun j x y hx _=>by simp at hx⟩
theorem addr_bd {K:Ker} {L:List Plc} (h:ZaQ K L=0) (i:Imp):0≤(addrOf K L i).1∧(addrOf K L i).1≤9151:=by
 have hz:(0:Int)≤0∧(0:Int)≤9151:=by decide
 rcases addrOf_cases K L i with ⟨_,e⟩ | ⟨t,ht,⟨_,e⟩ | ⟨_,_,e⟩ | ⟨_,_,⟨_,e⟩ | ⟨x,hx,e⟩⟩⟩
 ·rw [e];exact hz
 ·rw [e];exact hz
 ·rw [e];exact hz
 ·rw [e];exact hz
 ·obtain ⟨b1,b2,_,b4⟩:=tgt_bd h ht
  have:=b4 x (List.mem_of_find?_eq_some hx)
  rw [e];exact ⟨by dsimp only;omega,by dsimp only;omega⟩
theorem addrs_bd {K:Ker} {L:List Plc} (h:ZaQ K L=0):∀ (is:List Imp) (a:List Int),(∀ x∈a,0≤x∧x≤9151)→∀ x∈(ZaF K L a is).1,0≤x∧x≤9151
 | [],a,ha=>ha
 | i::r,a,ha=>by
  have hs:ZaF K L a (i::r)=if (addrOf K L i).2≠0 then ([],(addrOf K L i).2) else ZaF K L (a++[(addrOf K L i).1]) r:=rfl;rw [hs]
  by_cases h0:(addrOf K L i).2=0
  ·rw [if_neg (by omega)]
   refine addrs_bd h r _ fun x hx=>?_
   rcases List.mem_append.1 hx with hx | hx
   ·exact ha x hx
   ·rw [List.mem_singleton.1 hx]
    exact addr_bd h i
  ·rw [if_pos h0]
   intro x hx;simp at hx
theorem app_even {n:Int} {p:Pat} {sy sy' bg bg':Int} (h:ZaJ n p sy bg=0) (h1:(sy'-sy) % 2=0) (h2:(bg'-bg) % 2=0) (b1:0≤sy'∧sy'≤9151) (b2:0≤bg'∧bg'≤9151) (hn:n≤256):ZaJ n p sy' bg'=0:=by
 have hw:=width_nonneg p.kind;unfold ZaJ at h ⊢
 split at h
 ·omega
 ·rename_i hw0
  rw [if_neg hw0]
  split at h
  ·omega
  ·rename_i hb
   simp only [Bool.not_eq_false,Bool.and_eq_true,Zcv] at hb;obtain ⟨⟨q1,q2⟩,q3⟩:=hb;have hb':(betw p.add 0 65535 && betw p.pos 0 (n-width p.kind) && betw bg' 0 65279)=true:=by
    simp only [Bool.and_eq_true,Zcv];exact ⟨⟨q1,q2⟩,by omega,by omega⟩
   rw [hb',if_neg (by decide)];unfold Zb at h ⊢;rw [if_neg hw0] at h ⊢;have hv:Zcn sy' p.add (bg'+p.pos)=true:=by
    unfold Zcn;simp only [Bool.and_eq_true,Zcv]
    omega
   rw [hv,if_neg (by decide)]
   split at h
   ·omega
   ·split at h
    ·omega
    ·rename_i hk
     rw [if_neg ?_];rintro ⟨k1,k2⟩;exact hk ⟨k1,by omega⟩
theorem patd_even {ads ads':List Int} {bg bg':Int} (ha:Evens ads' ads) (hb:(bg'-bg) % 2=0) (ba:∀ x∈ads',0≤x∧x≤9151) (bb:0≤bg'∧bg'≤9151):∀ (ps:List Pat) (s s':ByteArray),s'.size=s.size→s.size≤256→(∀ p∈ps,p.sym<ads.length)→(patd ads bg s ps).2=0→(patd ads' bg' s' ps).2=0
 | [],_,_,_,_,_,_=>rfl
 | p::r,s,s',hs,hn,hp,h=>by
  unfold patd at h ⊢
  by_cases h0:ZaJ s.size p (symOf ads bg p) bg=0
  ·rw [if_neg (by omega)] at h
   have hsy:((symOf ads' bg' p)-(symOf ads bg p)) % 2=0∧0≤symOf ads' bg' p∧symOf ads' bg' p≤9151:=by
    unfold symOf
    by_cases hsym:0≤p.sym
    ·rw [if_pos hsym,if_pos hsym]
     have hl:=hp p (by simp);have hj:p.sym.toNat<ads.length:=by omega
     have hj':p.sym.toNat<ads'.length:=by rw [ha.1];exact hj
     rw [List.getElem?_eq_getElem hj,List.getElem?_eq_getElem hj'];dsimp only [Option.getD]
     have:=ba ads'[p.sym.toNat] (List.getElem_mem hj')
     exact ⟨ha.2 _ _ _ (List.getElem?_eq_getElem hj') (List.getElem?_eq_getElem hj),this.1,this.2⟩
    ·rw [if_neg hsym,if_neg hsym]
     exact ⟨hb,bb.1,bb.2⟩
   have h0':ZaJ s'.size p (symOf ads' bg' p) bg'=0:=by
    rw [hs];exact app_even h0 hsy.1 hb ⟨hsy.2.1,hsy.2.2⟩ bb (by omega)
   rw [if_neg (by omega)];refine patd_even ha hb ba bb r _ _ ?_ ?_ (fun q hq=>hp q (List.mem_cons_of_mem _ hq)) h
   ·rw [appStr_size h0',appStr_size h0,hs]
   ·rw [appStr_size h0];exact hn
  ·rw [if_pos h0] at h
   exact absurd h h0
theorem area_all {K:Ker} {L:List Plc}:∀ (l:List Plc) (s:ByteArray),(∀ p∈l,(ZaY K L p).2=0)→(ZaM K L s l).2=0
 | [],_,_=>rfl
 | p::r,s,h=>by
  have hst:ZaM K L s (p::r)=if (ZaY K L p).2≠0 then (⟨#[]⟩,(ZaY K L p).2) else ZaM K L (Zaz s (64*p.first.toNat)++(ZaY K L p).1) r:=rfl;rw [hst,if_neg (by have:=h p (by simp);omega)];exact area_all r _ fun q hq=>h q (List.mem_cons_of_mem _ hq)
theorem moved_right {K:Ker} {L L':List Plc} (h:Zaq K L=0) (hm:L'.map (·.mod)=L.map (·.mod)) (hok:okPl 0 L'):Zaq K L'=0:=by
 obtain ⟨h1,h2,h3⟩:=chkRg_zero h;obtain ⟨hk,hr,ht⟩:=Zbe h1;obtain ⟨r1,r2,r3⟩:=ZaO.1 hr;have hl:L'.length=L.length:=by have:=congrArg List.length hm;simpa using this
 have hat:∀ p'∈L',∃ p∈L,p'.mod=p.mod:=fun p' hp'=>by
  have:p'.mod∈L'.map (·.mod):=List.mem_map.2 ⟨p',hp',rfl⟩
  rw [hm] at this;obtain ⟨p,hp,e⟩:=List.mem_map.1 this;exact ⟨p,hp,e.symm⟩
 have hr':Zas L'=0:=ZaO.2 ⟨by rw [hl];exact r1,fun p' hp'=>by obtain ⟨p,hp,e⟩:=hat p' hp';rw [e];exact r2 p hp,hok⟩;have ht':twiceFrom [] L'=false:=by rw [twice_mods L L' [] hm];exact ht
 have h1':ZaA K L'=0:=by
  unfold ZaA;rw [if_neg (by omega),if_neg (by omega),ht']
  rfl
 have h2':(ZbE L').2=0:=by rw [ord_mods L L' hm];exact h2
 obtain ⟨_,_,h4⟩:=areaOf_zero h3;obtain ⟨_,_,g3,_⟩:=area_byte (K:=K) (L:=L) L ⟨#[]⟩ 0 r3 (Nat.le_refl _) h4;have hf:=link_find h1;have hf':=link_find h1';have h3':(ZbY K L').2=0:=by
  unfold ZbY;rw [if_neg (by omega)];refine area_all L' _ fun p' hp'=>?_;obtain ⟨p,hp,e⟩:=hat p' hp';have hc:=r2 p hp
  rcases imgRes_cases K L p with ⟨n1,e1⟩ | ⟨_,n2,e1⟩ | ⟨n1,n2,_⟩
  ·have:=(g3 p hp).1;rw [e1] at this;exact absurd this n1
  ·have:=(g3 p hp).1;rw [e1] at this;exact absurd this n2
  ·have hal:=allRes_length n1
   have ea:ZaK K L p.mod=ZaF K L [] p.mod.imps:=by
    rcases allRes_cases K L p.mod with ⟨q,_⟩ | ⟨_,q,_⟩ | ⟨_,_,q⟩
    ·exact absurd hf q
    ·exact absurd hc q
    ·exact q
   have ea':ZaK K L' p'.mod=ZaF K L' [] p.mod.imps:=by
    rcases allRes_cases K L' p'.mod with ⟨q,_⟩ | ⟨_,q,_⟩ | ⟨_,_,q⟩
    ·exact absurd hf' q
    ·rw [e] at q;exact absurd hc q
    ·rw [q,e]
   obtain ⟨q1,q2⟩:=addrs_mods (K:=K) hm p.mod.imps [] [] ⟨rfl,fun j x y hx _=>by simp at hx⟩;have qb:=addrs_bd hf' p.mod.imps [] (fun x hx=>by simp at hx);have f1:=okPl_first hok p' hp';have hz:=Zco hc;rw [ea] at n1 n2 hal;rw [← ea'] at q1 q2 qb;have n1':(ZaK K L' p'.mod).2=0:=by rw [q1];exact n1
   have hsy:∀ q∈p.mod.pats,q.sym<(ZaF K L [] p.mod.imps).1.length:=fun q hq=>by
    have:=(pats_of hc q hq).2
    rw [hal]
    omega
   have n2':=patd_even (bg:=4096+p.first*64) (bg':=4096+p'.first*64) q2 (by omega) qb (by omega) p.mod.pats p.mod.text p'.mod.text (by rw [e]) (by omega) hsy n2;unfold ZaY;rw [if_neg (by omega)];have n2'':(patd (ZaK K L' p'.mod).1 (4096+p'.first*64) p'.mod.text p'.mod.pats).2=0:=by
    have:p'.mod.pats=p.mod.pats:=by rw [e]
    rw [this];exact n2'
   rw [if_neg (by omega)]
 unfold Zaq;rw [if_neg (by omega),if_neg (by omega)];exact h3'
theorem step_right {K:Ker} {L L':List Plc} (h:Zaq K L=0) (hs:stepFrom 0 L=some L'):Zaq K L'=0:=
 moved_right h (step_some hs).2.2 (step_ok (ZaO.1 (Zbe (chkRg_zero h).1).2.1).2.2 hs)
end Go.Proofs.YtlpnfbpgnfappaaGreat
namespace Go.Proofs.YtlpnfbpgnfappaaGreat
open Go.RowKit Go.PlainAid Go.Lib
theorem results_ctt_row {P:Program} {fn:Func} {p u x:Tmp} {ty:TypeId} (h:fn.results=#[.cell p ty,.tmp u,.tmp x]) (tmps:Array Value) (w:World) (g:Nat) (t:TypeId) (cs:Array Value) (fr:Nat × Nat) (d:TypeDesc)
  (hp:tmps.getD p undef=.pointer (some ⟨g,0,none⟩)) (hg:w.heap[g]?=some (.cells cs t fr))
  (hu:P.underlying ty=some d) (hd:(match d with | .struct _ | .array _ _=>true | _=>false)=true) (hi:(P.info? ty).map (·.size)=some cs.size) :
  (results fn tmps).run P w=.ok (.tuple #[.agg cs,tmps.getD u undef,tmps.getD x undef]) w:=by
 have hp':tmps[p]?.getD undef=.pointer (some ⟨g,0,none⟩):=by simpa using hp
 simp [results,h,hp',asAddr,run_loadVar_row w g t ty cs fr d hg hu hd hi]
theorem fits_mods {l l':List PV} (h:l'.map (·.mod)=l.map (·.mod)) (hf:∀ x∈l,x.mod.fits):∀ x∈l',x.mod.fits:=fun x hx=>by
 have:x.mod∈l'.map (·.mod):=List.mem_map_of_mem hx
 rw [h] at this;obtain ⟨y,hy,e⟩:=List.mem_map.1 this;rw [← e];exact hf y hy
theorem mods_plc {l l':List PV} (h:l'.map PV.plc=l.map PV.plc):l'.map (·.mod)=l.map (·.mod):=by
 have:=congrArg (List.map fun p:Plc=>p.mod) h
 rw [List.map_map,List.map_map] at this;exact this
theorem rg_lens {K:Ker} {l:List PV} (h:Zaq K (l.map PV.plc)=0):K.exps.length≤255∧l.length≤255∧(∀ x∈l,x.mod.exps.length≤255∧x.mod.imps.length≤255∧x.mod.pats.length≤255)∧Zas (l.map PV.plc)=0:=by
 obtain ⟨h1,h2,_⟩:=Zbe (chkRg_zero h).1;have h3:=(chkKer_zero h1).1;obtain ⟨h4,h5⟩:=reg_lens h2;exact ⟨by omega,by omega,h5,h2⟩
def ZaD (base Bp:Nat) (W:World) (t:TypeId) (K:Ker) (ve vl:Value) (l:List PV):Prop:=
 Za W Bp t #[.int .i64 K.major,.int .i64 K.minor,ve,vl]∧W.ownsRow base 129 2 ve K.exps.length (K.exps.flatMap expC)∧W.ownsRow base 57 8 vl l.length (l.flatMap pvC)∧∀ x∈l,Zak base W x
theorem packed_any (K:Ker) (l:List PV) (v:Value) (w:World) (hreg:Zaw w.heap.size w v K l) (hf:K.fits) (hfit:∀ x∈l,x.mod.fits) (Kf:FuncId) (cap:Value) (hK:∀ W x,Sem.run Tryz.prog (callFunc Kf #[x,cap]) W=.ok (.enter Kf #[x,cap]) W) (m:Nat) (hm:m≤w.heap.size) (R:List Plc→Prop) (Q1:World→Prop) (hq1:∀ W W' B,w.heap.size≤B→W.grownBy W' (some B)→Q1 W→Q1 W')
  (hdo:Zaq K (l.map PV.plc)=0→∀ (W:World) (Bp:Nat) (ve vl:Value) (l0:List PV),Below w.heap.size w W→w.heap.size≤Bp→ZaD w.heap.size Bp W 147 K ve vl l0→l0.map PV.plc=l.map PV.plc→(∀ x∈l0,x.mod.fits)→
   Calls Tryz.prog Kf #[.pointer (some ⟨Bp,0,none⟩),cap] W fun e w'=>e=.returned (.tuple #[])∧(∃ l':List PV,R (l'.map PV.plc)∧l'.map (·.mod)=l0.map (·.mod)∧ZaD w.heap.size Bp w' 147 K ve vl l'∧(∀ B c,B<W.heap.size→w.heap.size≤B→Za W B 27 c→Za w' B 27 c))∧Q1 w'∧Below m W w') :
  Calls Tryz.prog 61 #[v,.func (.func Kf) #[] #[cap]] w fun e w'=>
   (Zaq K (l.map PV.plc)≠0∧e=.returned (.tuple #[.agg #[.int .i64 0,.int .i64 0,.slice none 0 0,.slice none 0 0],.int .i64 (Zaq K (l.map PV.plc))])∧Below w.heap.size w w')∨
   (Zaq K (l.map PV.plc)=0∧∃ (v':Value) (l':List PV),e=.returned (.tuple #[v',.int .i64 0])∧R (l'.map PV.plc)∧l'.map (·.mod)=l.map (·.mod)∧Zau w.heap.size w' v' K l'∧Q1 w'∧Below m w w'):=by
 have HCK:Hid (∀ W,Below w.heap.size w W→Calls Tryz.prog 68 #[v] W fun e w'=>e=.returned (.int .i64 (Zaq K (l.map PV.plc)))∧Below W.heap.size W w'):=fun W hb=>Zcj K l v W ((hreg.below hb).more hb.size) hf hfit;have HCP:Hid (Zaq K (l.map PV.plc)=0→∀ W,Below w.heap.size w W→Calls Tryz.prog 91 #[v] W fun e w'=>(∃ v' l',e=.returned v'∧l'.map PV.plc=l.map PV.plc∧Zau W.heap.size w' v' K l')∧Below W.heap.size W w'):=fun h W hb=>by
  obtain ⟨h1,h2,h3,_⟩:=rg_lens h;exact copyReg_any K l v W ((hreg.below hb).more hb.size) h1 h2 h3
 have HDO:Hid _:=hdo;obtain ⟨ve,vl,rfl,hE,hL⟩:=hreg;obtain ⟨qe,je,rfl,-,-⟩:=hE;obtain ⟨⟨a,cap',rfl,-,-⟩,-⟩:=hL;generalize hcr:Zaq K (l.map PV.plc)=cr at *;generalize K.exps.length=lk at *;have HB1:Hid (Below w.heap.size w ((w.alloc (.cells #[.int .i64 K.major,.int .i64 K.minor,.slice qe lk je,.slice a l.length cap'] 27)).alloc (.cells #[.int .i64 0,.int .i64 0,.slice none 0 0,.slice none 0 0] 27))):=((Below.refl _ _).alloc (Nat.le_refl _) _).alloc (by simp) _;have HC1:Hid (Za ((w.alloc (.cells #[.int .i64 K.major,.int .i64 K.minor,.slice qe lk je,.slice a l.length cap'] 27)).alloc (.cells #[.int .i64 0,.int .i64 0,.slice none 0 0,.slice none 0 0] 27)) w.heap.size 27 #[.int .i64 K.major,.int .i64 K.minor,.slice qe lk je,.slice a l.length cap']):=(Za.new _ _ _).kept (World.grownBy_alloc _ _ none) (by simp);have HZ1:Hid (Za ((w.alloc (.cells #[.int .i64 K.major,.int .i64 K.minor,.slice qe lk je,.slice a l.length cap'] 27)).alloc (.cells #[.int .i64 0,.int .i64 0,.slice none 0 0,.slice none 0 0] 27)) (w.heap.size+1) 27 #[.int .i64 0,.int .i64 0,.slice none 0 0,.slice none 0 0]):=by
  have:=Za.new (w.alloc (.cells #[.int .i64 K.major,.int .i64 K.minor,.slice qe lk je,.slice a l.length cap'] 27)) 27 #[.int .i64 0,.int .i64 0,.slice none 0 0,.slice none 0 0]
  rw [World.size_alloc] at this;exact this
 go_enter Tryz.func61,Tryz.ntmps61
 go_wp2_with fail;refine (HCK.out _ HB1.out).mono ?_;generalize ((w.alloc (.cells #[.int .i64 K.major,.int .i64 K.minor,.slice qe lk je,.slice a l.length cap'] 27)).alloc (.cells #[.int .i64 0,.int .i64 0,.slice none 0 0,.slice none 0 0] 27))=w1 at *;rintro e w2 ⟨rfl,b2⟩;have HB2:Hid (Below _ _ _):=HB1.out.trans (b2.mono HB1.out.size);have HC2:Hid (Za _ _ _ _):=HC1.out.below b2 HC1.out.lt;have HZ2:Hid (Za _ _ _ _):=HZ1.out.below b2 HZ1.out.lt;clear b2 HB1 HC1 HZ1 HCK
 by_cases hcr0:cr≠0
 ·have h':(cr != 0)=true:=by simpa using hcr0
  have HN:Hid (cr≠0):=hcr0;obtain ⟨z0,z1,z2,z3⟩:=ZaC HZ2.out;have f0:=Za.frozen HZ2.out 0;have f1:=Za.frozen HZ2.out 1;have f2:=Za.frozen HZ2.out 2;have f3:=Za.frozen HZ2.out 3;have lz:=Za.lt HZ2.out;clear hcr0 HCP HDO HC2 hdo hcr hfit hf;go_wp2;have hZ9:=sets4 HZ2.out (.int .i64 0) (.int .i64 0) (.slice none 0 0) (.slice none 0 0);have hG9:=Zat w2 (w.heap.size+1) (.int .i64 0) (.int .i64 0) (.slice none 0 0) (.slice none 0 0);refine bodyPost_ret (Zab rfl _ _ _ _ _ _ _ rfl hZ9 Tryz.underlying27 rfl (by kernel_rfl)) rfl ?_;exact .inl ⟨HN.out,rfl,HB2.out.grown hG9 HB2.out.size (fun q hq=>by obtain rfl:=Option.some.inj hq;exact Nat.le_succ _)⟩
 ·obtain rfl:cr=0:=Decidable.not_not.1 hcr0
  have HCC:Hid _:=HCP.out (by first | rfl | trivial);have HDD:Hid _:=HDO.out (by first | rfl | trivial);obtain ⟨c0,c1,c2,c3⟩:=ZaC HC2.out;have lc:=Za.lt HC2.out;clear HCP HDO hdo hcr0;go_wp2_with fail;refine (HCC.out _ HB2.out).mono ?_;rintro e w3 ⟨⟨v3,l0,rfl,hpl,ho⟩,b3⟩;obtain ⟨ve3,vl3,rfl,oe3,ol3,op3⟩:=ho;obtain ⟨ea,ec,rfl⟩:=Zae oe3;obtain ⟨pa,pc,rfl⟩:=Zae ol3;have LB:w.heap.size≤w2.heap.size:=HB2.out.size;have LZ:w.heap.size+1<w3.heap.size:=Nat.lt_of_lt_of_le HZ2.out.lt b3.size;have hB4:Below w.heap.size w (w3.alloc (.cells #[.int .i64 K.major,.int .i64 K.minor,.slice ea K.exps.length ec,.slice pa l0.length pc] 147)):=by
   have:=HB2.out.trans (b3.mono HB2.out.size)
   exact this.alloc this.size _
  have HB4:Hid (Below w.heap.size w (w3.alloc (.cells #[.int .i64 K.major,.int .i64 K.minor,.slice ea K.exps.length ec,.slice pa l0.length pc] 147))):=hB4;have HZ4:Hid (Za (w3.alloc (.cells #[.int .i64 K.major,.int .i64 K.minor,.slice ea K.exps.length ec,.slice pa l0.length pc] 147)) (w.heap.size+1) 27 #[.int .i64 0,.int .i64 0,.slice none 0 0,.slice none 0 0]):=(HZ2.out.below b3 HZ2.out.lt).kept (World.grownBy_alloc _ _ none) (by simp);have HP4:Hid (ZaD w.heap.size w3.heap.size (w3.alloc (.cells #[.int .i64 K.major,.int .i64 K.minor,.slice ea K.exps.length ec,.slice pa l0.length pc] 147)) 147 K (.slice ea K.exps.length ec) (.slice pa l0.length pc) l0):=⟨Za.new _ _ _,(ZbR oe3 LB).alloc _,(ZbR ol3 LB).alloc _,fun x hx=>((op3 x hx).lower LB).below ((Below.refl _ _).alloc (Nat.le_refl _) _)⟩;have HPL:Hid (l0.map PV.plc=l.map PV.plc):=hpl;have HFT:Hid (∀ x∈l0,x.mod.fits):=fits_mods (mods_plc hpl) hfit;clear b3 HB2 HZ2 HC2 HCC oe3 ol3 op3 hpl c0 c1 c2 c3 lc hB4 hfit;generalize hkl:K.exps.length=ke at *;have LW3:w.heap.size≤w3.heap.size:=by omega
  go_wp2_with fail;generalize (w3.alloc (.cells #[.int .i64 K.major,.int .i64 K.minor,.slice ea ke ec,.slice pa l0.length pc] 147))=w4 at *;generalize w3.heap.size=Bp at *;refine (HDD.out w4 Bp _ _ l0 HB4.out LW3 HP4.out HPL.out HFT.out).mono ?_;rintro e w5 ⟨rfl,⟨l',hR,hmm,hp5,hkeep⟩,hQ,hb5⟩;have hz5:=hkeep _ _ HZ4.out.lt (Nat.le_succ _) HZ4.out;have HZ5:Hid (Za w5 (w.heap.size+1) 27 #[.int .i64 0,.int .i64 0,.slice none 0 0,.slice none 0 0]):=hz5;have HB5:Hid (Below m w w5):=(HB4.out.mono hm).trans (hb5.mono (Nat.le_refl _));have HR5:Hid (R (l'.map PV.plc)):=hR;have HM5:Hid (l'.map (·.mod)=l.map (·.mod)):=hmm.trans (mods_plc HPL.out);have HQ5:Hid (Q1 w5):=hQ;unfold ZaD at hp5;rw [hkl] at hp5;have HP5:Hid _:=hp5;have ll:l'.length=l0.length:=by have:=congrArg List.length hmm;simpa using this
  have p0:=Za.cell hp5.1 0;have p1:=Za.cell hp5.1 1;have p2:=Za.cell hp5.1 2;have p3:=Za.cell hp5.1 3;have lp:=Za.lt hp5.1;have z0:=Za.cell hz5 0;have z1:=Za.cell hz5 1;have z2:=Za.cell hz5 2;have z3:=Za.cell hz5 3;have f0:=Za.frozen hz5 0;have f1:=Za.frozen hz5 1;have f2:=Za.frozen hz5 2;have f3:=Za.frozen hz5 3;have lz:=Za.lt hz5;simp at p0 p1 p2 p3 z0 z1 z2 z3;clear HDD HB4 HZ4 HP4 hkeep hz5 hb5 hR hmm hQ hp5 hcr;go_wp2;have hZ9:=sets4 HZ5.out (.int .i64 K.major) (.int .i64 K.minor) (.slice ea ke ec) (.slice pa l0.length pc);have hG9:=Zat w5 (w.heap.size+1) (.int .i64 K.major) (.int .i64 K.minor) (.slice ea ke ec) (.slice pa l0.length pc);refine bodyPost_ret (Zab rfl _ _ _ _ _ _ _ rfl hZ9 Tryz.underlying27 rfl (by kernel_rfl)) rfl ?_;refine ⟨_,rfl,l',HR5.out,HM5.out,⟨_,_,rfl,?_,?_,fun x hx=>(HP5.out.2.2.2 x hx).ZbM HZ5.out (by decide) (by decide) (by decide) hG9⟩,hq1 _ _ _ (Nat.le_succ _) hG9 HQ5.out,HB5.out.grown hG9 (Nat.le_trans hm (by have:=HZ5.out.lt;omega)) (fun q hq=>by obtain rfl:=Option.some.inj hq;omega)⟩
  ·rw [hkl]
   exact HP5.out.2.1.kept hG9 (.inr (Zao HP5.out.2.1 HZ5.out (by decide)))
  ·exact HP5.out.2.2.1.kept hG9 (.inr (Zao HP5.out.2.2.1 HZ5.out (by decide)))
def Zbb (L:List Plc):List Plc × Bool:=match stepFrom 0 L with | none=>(L,false) | some L'=>(L',true)
theorem ZaD.below {base Bp:Nat} {W W':World} {t:TypeId} {K:Ker} {ve vl:Value} {l:List PV} (h:ZaD base Bp W t K ve vl l) (hb:Below W.heap.size W W'):ZaD base Bp W' t K ve vl l:=
 ⟨h.1.below hb h.1.lt,own_below h.2.1 hb,own_below h.2.2.1 hb,fun x hx=>(h.2.2.2 x hx).below hb⟩
theorem ZaD.ZbM {base Bp B:Nat} {W W':World} {t s:TypeId} {K:Ker} {ve vl:Value} {l:List PV} {cs:Array Value} (h:ZaD base Bp W t K ve vl l) (hc:Za W B s cs) (hne:Bp≠B) (h1:129≠s) (h2:106≠s) (h3:113≠s) (h4:57≠s) (hg:W.grownBy W' (some B)):ZaD base Bp W' t K ve vl l:=
 ⟨h.1.kept hg (by intro e;exact hne (Option.some.inj e)),h.2.1.kept hg (.inr (Zao h.2.1 hc h1)),h.2.2.1.kept hg (.inr (Zao h.2.2.1 hc h4)),fun x hx=>(h.2.2.2 x hx).ZbM hc h1 h2 h3 hg⟩
theorem cpStep_pack (K:Ker) (l:List PV) (ve vl:Value) (base Bp:Nat) (w:World) (hp:ZaD base Bp w 147 K ve vl l) (hfit:∀ x∈l,x.mod.fits) (h0:Zas (l.map PV.plc)=0) :
  Calls Tryz.prog 63 #[.pointer (some ⟨Bp,0,none⟩)] w fun e w'=>∃ l':List PV,e=.returned (.bool (Zbb (l.map PV.plc)).2)∧l'.map PV.plc=(Zbb (l.map PV.plc)).1∧l'.map (·.mod)=l.map (·.mod)∧ZaD base Bp w' 147 K ve vl l'∧Moved w vl w':=by
 refine (cpStep_any K l ve vl base Bp w hp.1 hp.2.2.1 hp.2.2.2 hfit h0).mono ?_;rintro e w' (⟨hs,rfl,hb⟩ | ⟨l',hs,hm,rfl,hc,hL,hP,hmv⟩)
 ·refine ⟨l,by unfold Zbb;rw [hs],by unfold Zbb;rw [hs],rfl,hp.below hb,w',hb,?_⟩
  exact ⟨rfl,rfl,rfl,Nat.le_refl _,fun k _ _=>rfl⟩
 ·refine ⟨l',by unfold Zbb;rw [hs],by unfold Zbb;rw [hs],hm,?_,hmv⟩
  obtain ⟨w1,hb,hg⟩:=hmv;exact ⟨hc,ZaN (own_below hp.2.1 hb) (own_below hp.2.2.1 hb) (by decide) hg,hL,hP⟩
theorem Moved.cells {w w':World} {vl:Value} {n base:Nat} {xs:List Value} (h:Moved w vl w') (hL:w.ownsRow base 57 8 vl n xs) {B:Nat} {t:TypeId} {cs:Array Value} (hc:Za w B t cs) (ht:57≠t):Za w' B t cs:=by
 obtain ⟨w1,hb,hg⟩:=h;exact ZaB (hc.below hb hc.lt) (own_below hL hb) ht hg
theorem Moved.under {w w':World} {vl:Value} {n base m:Nat} {xs:List Value} (h:Moved w vl w') (hL:w.ownsRow base 57 8 vl n xs) (hm:m≤base) (hw:m≤w.heap.size):Below m w w':=by
 obtain ⟨w1,hb,hg⟩:=h;exact (hb.mono hw).grown hg (Nat.le_trans hw hb.size) (fun q hq=>Nat.le_trans hm (ZaP hL q hq))
theorem cpStepF_any (K:Ker) (l:List PV) (ve vl:Value) (base Bp Bc m:Nat) (b0:Bool) (w:World) (hp:ZaD base Bp w 147 K ve vl l) (hfit:∀ x∈l,x.mod.fits) (h0:Zas (l.map PV.plc)=0) (hc:Za w Bc 4 #[.bool b0]) (hcb:Bc<base) (hbp:base≤Bp) (hm:m≤Bc) :
  Calls Tryz.prog 78 #[.pointer (some ⟨Bp,0,none⟩),.pointer (some ⟨Bc,0,none⟩)] w fun e w'=>e=.returned (.tuple #[])∧(∃ l':List PV,l'.map PV.plc=(Zbb (l.map PV.plc)).1∧l'.map (·.mod)=l.map (·.mod)∧ZaD base Bp w' 147 K ve vl l'∧(∀ B c,B<w.heap.size→base≤B→Za w B 27 c→Za w' B 27 c))∧Za w' Bc 4 #[.bool (Zbb (l.map PV.plc)).2]∧Below m w w':=by
 have HS:Hid (Calls Tryz.prog 63 #[.pointer (some ⟨Bp,0,none⟩)] w fun e w'=>∃ l':List PV,e=.returned (.bool (Zbb (l.map PV.plc)).2)∧l'.map PV.plc=(Zbb (l.map PV.plc)).1∧l'.map (·.mod)=l.map (·.mod)∧ZaD base Bp w' 147 K ve vl l'∧Moved w vl w'):=cpStep_pack K l ve vl base Bp w hp hfit h0;have HP:Hid (ZaD base Bp w 147 K ve vl l):=hp;have HC:Hid (Za w Bc 4 #[.bool b0]):=hc;clear hp hc hfit h0;generalize Zbb (l.map PV.plc)=SR at *;obtain ⟨SL,sb⟩:=SR;dsimp only at *
 go_enter Tryz.func78,Tryz.ntmps78
 go_wp2_with fail;refine HS.out.mono ?_;rintro e w2 ⟨l',rfl,hpl,hmm,hp2,hmv⟩;have HC2:Hid (Za w2 Bc 4 #[.bool b0]):=hmv.cells HP.out.2.2.1 HC.out (by decide);have HM2:Hid (Moved w vl w2):=hmv;have HP2:Hid (ZaD base Bp w2 147 K ve vl l'):=hp2;have c0:=Za.cell HC2.out 0;have cf:=Za.frozen HC2.out 0;have cl:=Za.lt HC2.out;have cl1:=Za.lt HC.out;simp at c0;clear HS hmv hp2;go_wp2;have hg:=Zai w2 Bc 0 (.bool sb);have hcs:=Za.set 0 (.bool sb) HC2.out;simp only [List.setIfInBounds_toArray,List.set_cons_zero] at hcs
 go_end0
 refine ⟨rfl,⟨l',hpl,hmm,HP2.out.ZbM HC2.out (by omega) (by decide) (by decide) (by decide) (by decide) hg,fun B c h1 h2 h3=>(HM2.out.cells HP.out.2.2.1 h3 (by decide)).kept hg (by intro e;have:=Option.some.inj e;omega)⟩,hcs,?_⟩;exact (HM2.out.under HP.out.2.2.1 (by omega) (by omega)).setCell (by simp;omega) _
theorem off_len:∀ (L:List Plc) (e:Int),offFrom e L≤L.length
 | [],_=>Nat.le_refl _
 | p::r,e=>by
  have:=off_len r (e+szM p.mod)
  show (if p.first=e then 0 else 1)+offFrom _ r≤r.length+1
  split <;> omega
theorem cpPackF_any (K:Ker) (l:List PV) (ve vl:Value) (base Bp Bc m:Nat) (w:World) (hp:ZaD base Bp w 147 K ve vl l) (hfit:∀ x∈l,x.mod.fits) (h0:Zaq K (l.map PV.plc)=0) (hc:Za w Bc 3 #[.int .i64 0]) (hcb:Bc<base) (hbp:base≤Bp) (hm:m≤Bc) :
  Calls Tryz.prog 62 #[.pointer (some ⟨Bp,0,none⟩),.pointer (some ⟨Bc,0,none⟩)] w fun e w'=>e=.returned (.tuple #[])∧(∃ l':List PV,l'.map PV.plc=packFrom 0 (l.map PV.plc)∧l'.map (·.mod)=l.map (·.mod)∧ZaD base Bp w' 147 K ve vl l'∧(∀ B c,B<w.heap.size→base≤B→Za w B 27 c→Za w' B 27 c))∧Za w' Bc 3 #[.int .i64 (offFrom 0 (l.map PV.plc):Int)]∧Below m w w':=by
 have HST:Hid (∀ (l1:List PV) W,ZaD base Bp W 147 K ve vl l1→(∀ x∈l1,x.mod.fits)→Zas (l1.map PV.plc)=0→Calls Tryz.prog 63 #[.pointer (some ⟨Bp,0,none⟩)] W fun e w'=>∃ l':List PV,e=.returned (.bool (Zbb (l1.map PV.plc)).2)∧l'.map PV.plc=(Zbb (l1.map PV.plc)).1∧l'.map (·.mod)=l1.map (·.mod)∧ZaD base Bp w' 147 K ve vl l'∧Moved W vl w'):=fun l1 W h1 h2 h3=>cpStep_pack K l1 ve vl base Bp W h1 h2 h3;have HSN:Hid (∀ L L':List Plc,Zaq K L=0→stepFrom 0 L=some L'→Zaq K L'=0):=fun L L' h1 h2=>step_right h1 h2;have hlen:l.length≤255:=(rg_lens h0).2.1;have hol:=off_len (l.map PV.plc) 0;rw [List.length_map] at hol;have HFIT:Hid (∀ x∈l,x.mod.fits):=hfit;have HLEN:Hid (∀ l1:List PV,Zaq K (l1.map PV.plc)=0→Zas (l1.map PV.plc)=0):=fun l1 h=>(rg_lens h).2.2.2;have HP:Hid (ZaD base Bp w 147 K ve vl l):=hp;have HC:Hid (Za w Bc 3 #[.int .i64 ((0:Nat):Int)]):=hc;have H0:Hid (Zaq K (l.map PV.plc)=0):=h0;have hbc:Bc<w.heap.size:=hc.lt;have HOF:Hid (offFrom 0 (l.map PV.plc)≤255):=by show _≤_;omega
 clear hp hc hfit h0 hol
 go_enter Tryz.func62,Tryz.ntmps62
 go_wp2_with fail
 go_loopg [] (offFrom 0 (l.map PV.plc)) (fun gk wr=>∃ (l1:List PV) (many:Nat),Hid (gk=offFrom 0 (l1.map PV.plc))∧Hid (gk+many=offFrom 0 (l.map PV.plc))∧Hid (packFrom 0 (l1.map PV.plc)=packFrom 0 (l.map PV.plc))∧Hid (l1.map (·.mod)=l.map (·.mod))∧Hid (Zaq K (l1.map PV.plc)=0)∧Hid (ZaD base Bp wr 147 K ve vl l1)∧Hid (Za wr Bc 3 #[.int .i64 (many:Int)])∧Hid (∀ B c,B<w.heap.size→base≤B→Za w B 27 c→Za wr B 27 c)∧Hid (Below m w wr))
 case atStart=>exact ⟨l,0,(rfl:_=_),(rfl:_=_),(rfl:_=_),(rfl:_=_),H0,HP,HC,fun B c _ _ h=>h,Below.refl _ _⟩
 case round=>
  obtain ⟨l1,many,HGK,HGM,HPK,HMM,HR1,HP1,HC1,HKP,HB1⟩:=hrel;clear HP HC H0;go_wp2_with fail;refine (HST.out l1 wr HP1.out (fits_mods HMM.out HFIT.out) (HLEN.out l1 HR1.out)).mono ?_;rintro e w2 ⟨l',rfl,hpl,hmm,hp2,hmv⟩;have HC2:Hid (Za w2 Bc 3 #[.int .i64 (many:Int)]):=hmv.cells HP1.out.2.2.1 HC1.out (by decide);have HK2:Hid (∀ B c,B<w.heap.size→base≤B→Za w B 27 c→Za w2 B 27 c):=fun B c h1 h2 h3=>hmv.cells HP1.out.2.2.1 (HKP.out B c h1 h2 h3) (by decide);have hu:=hmv.under (m:=m) HP1.out.2.2.1 (by omega) (by have:=HC1.out.lt;omega);have HB2:Hid (Below _ _ _):=HB1.out.trans hu;have HP2:Hid (ZaD base Bp w2 147 K ve vl l'):=hp2;have HM2:Hid (l'.map (·.mod)=l.map (·.mod)):=hmm.trans HMM.out;clear hmv hp2 hmm HC1 HKP HB1 hu
  cases hs:stepFrom 0 (l1.map PV.plc) with
  | none=>
   have hr:Zbb (l1.map PV.plc)=(l1.map PV.plc,false):=by unfold Zbb;rw [hs]
   obtain ⟨n1,n2⟩:=step_none hs;rw [hr] at hpl ⊢;have HPL:Hid (l'.map PV.plc=packFrom 0 (l.map PV.plc)):=hpl.trans (n1.symm.trans HPK.out);have HMN:Hid (many=offFrom 0 (l.map PV.plc)):=by
    have h1:=HGK.out;have h2:=HGM.out
    show many=_
    omega
   clear hs hr n1 n2 hpl HGK HGM HPK HST HSN HLEN HFIT;go_wp2
   go_end0
   refine ⟨rfl,⟨l',HPL.out,HM2.out,HP2.out,HK2.out⟩,?_,HB2.out⟩;rw [← HMN.out];exact HC2.out
  | some L'=>
   have hr:Zbb (l1.map PV.plc)=(L',true):=by unfold Zbb;rw [hs]
   obtain ⟨n1,n2,_⟩:=step_some hs;rw [hr] at hpl ⊢;dsimp only at hpl;have HR2:Hid (Zaq K (l'.map PV.plc)=0):=by
    show Zaq _ _=0
    rw [hpl];exact HSN.out _ _ HR1.out hs
   have HPL:Hid (packFrom 0 (l'.map PV.plc)=packFrom 0 (l.map PV.plc)):=by
    show packFrom _ _=_
    rw [hpl,n1];exact HPK.out
   have HO2:Hid (offFrom 0 (l1.map PV.plc)=offFrom 0 (l'.map PV.plc)+1):=by
    show _=_
    rw [hpl];exact n2
   have hmb:many≤255:=by
    have h2:=HGM.out;have h3:=HOF.out
    omega
   have ew:wrap64 ((many:Int)+1)=(many:Int)+1:=by unfold wrap64;omega
   have EW2:Hid ((many:Int)+1=((many+1:Nat):Int)):=by show _=_;omega
   have c0:=Za.cell HC2.out 0;have cf:=Za.frozen HC2.out 0;have cl:=Za.lt HC2.out;simp at c0;clear hs hr n1 n2 hpl;go_wp2_with fail;have hg:=Zai w2 Bc 0 (.int .i64 ((many:Int)+1));have hcs:=Za.set 0 (.int .i64 ((many:Int)+1)) HC2.out;simp only [List.setIfInBounds_toArray,List.set_cons_zero] at hcs;have HC9:Hid (Za (w2.setCell ⟨Bc,0,none⟩ (.int .i64 ((many:Int)+1))) Bc 3 #[.int .i64 ((many+1:Nat):Int)]):=by
    rw [← EW2.out];exact hcs
   have HP9:Hid (ZaD base Bp (w2.setCell ⟨Bc,0,none⟩ (.int .i64 ((many:Int)+1))) 147 K ve vl l'):=HP2.out.ZbM HC2.out (by omega) (by decide) (by decide) (by decide) (by decide) hg;have HK9:Hid (∀ B c,B<w.heap.size→base≤B→Za w B 27 c→Za (w2.setCell ⟨Bc,0,none⟩ (.int .i64 ((many:Int)+1))) B 27 c):=fun B c h1 h2 h3=>(HK2.out B c h1 h2 h3).kept hg (by intro e;have:=Option.some.inj e;omega);have HB9:Hid (Below m w (w2.setCell ⟨Bc,0,none⟩ (.int .i64 ((many:Int)+1)))):=HB2.out.setCell (by simp;omega) _;clear hcs hg c0 cf cl
   go_roundg (offFrom 0 (l'.map PV.plc))
   case measure=>
    have h1:=HGK.out;have h2:=HO2.out
    omega
   case rel=>exact ⟨l',many+1,(rfl:_=_),(by have h1:=HGK.out;have h2:=HO2.out;have h3:=HGM.out;show _=_;omega),HPL,HM2,HR2,HP9,HC9,HK9,HB9⟩
def stepAns (K:Ker) (L:List Plc):(Ker × List Plc) × Bool × Int:=if Zaq K L=0 then ((K,(Zbb L).1),(Zbb L).2,0) else ((emptyK,[]),false,Zaq K L)
def packAns (K:Ker) (L:List Plc):(Ker × List Plc) × Nat × Int:=if Zaq K L=0 then ((K,packFrom 0 L),offFrom 0 L,0) else ((emptyK,[]),0,Zaq K L)
theorem zeroReg_owns (n:Nat) (W:World):Zau n W (.agg #[.int .i64 0,.int .i64 0,.slice none 0 0,.slice none 0 0]) emptyK []:=⟨_,_,rfl,World.ownsRow_nil _ _ _ _,World.ownsRow_nil _ _ _ _,fun x hx=>by simp at hx⟩
theorem Zau.ZbM {base B:Nat} {W W':World} {v:Value} {K:Ker} {l:List PV} {t:TypeId} {cs:Array Value} (h:Zau base W v K l) (hc:Za W B t cs) (h1:129≠t) (h2:106≠t) (h3:113≠t) (h4:57≠t) (hg:W.grownBy W' (some B)):Zau base W' v K l:=by
 obtain ⟨ve,vl,e,o1,o2,o3⟩:=h;exact ⟨ve,vl,e,o1.kept hg (.inr (Zao o1 hc h1)),o2.kept hg (.inr (Zao o2 hc h4)),fun x hx=>(o3 x hx).ZbM hc h1 h2 h3 hg⟩
theorem Zau.below {base:Nat} {W W':World} {v:Value} {K:Ker} {l:List PV} (h:Zau base W v K l) (hb:Below W.heap.size W W'):Zau base W' v K l:=by
 obtain ⟨ve,vl,e,o1,o2,o3⟩:=h;exact ⟨ve,vl,e,own_below o1 hb,own_below o2 hb,fun x hx=>(o3 x hx).below hb⟩
theorem Zau.lower {base b:Nat} {W:World} {v:Value} {K:Ker} {l:List PV} (h:Zau base W v K l) (hb:b≤base):Zau b W v K l:=by
 obtain ⟨ve,vl,e,o1,o2,o3⟩:=h;exact ⟨ve,vl,e,ZbR o1 hb,ZbR o2 hb,fun x hx=>(o3 x hx).lower hb⟩
theorem compStep_any (K:Ker) (l:List PV) (v:Value) (w:World) (hreg:Zaw w.heap.size w v K l) (hf:K.fits) (hfit:∀ x∈l,x.mod.fits) :
  Calls Tryz.prog 28 #[v] w fun e w'=>(∃ (v':Value) (l':List PV),e=.returned (.tuple #[v',.bool (stepAns K (l.map PV.plc)).2.1,.int .i64 (stepAns K (l.map PV.plc)).2.2])∧l'.map PV.plc=(stepAns K (l.map PV.plc)).1.2∧(∀ x∈l',x.mod.fits)∧Zau w.heap.size w' v' (stepAns K (l.map PV.plc)).1.1 l')∧Below w.heap.size w w':=by
 have HR0:Hid (Zaw w.heap.size w v K l):=hreg;obtain ⟨ve,vl,rfl,hE,hL⟩:=hreg;obtain ⟨qe,je,rfl,-,-⟩:=hE;obtain ⟨⟨a,cap,rfl,-,-⟩,-⟩:=hL;generalize hlk:K.exps.length=lk at *;have hB1:Below w.heap.size w (((w.alloc (.cells #[.int .i64 K.major,.int .i64 K.minor,.slice qe lk je,.slice a l.length cap] 27)).alloc (.cells #[.int .i64 0,.int .i64 0,.slice none 0 0,.slice none 0 0] 27)).alloc (.cells #[.bool false] 4)):=(((Below.refl _ _).alloc (Nat.le_refl _) _).alloc (by simp) _).alloc (by simp;omega) _;have hC1:Za (((w.alloc (.cells #[.int .i64 K.major,.int .i64 K.minor,.slice qe lk je,.slice a l.length cap] 27)).alloc (.cells #[.int .i64 0,.int .i64 0,.slice none 0 0,.slice none 0 0] 27)).alloc (.cells #[.bool false] 4)) w.heap.size 27 #[.int .i64 K.major,.int .i64 K.minor,.slice qe lk je,.slice a l.length cap]:=((Za.new w 27 #[.int .i64 K.major,.int .i64 K.minor,.slice qe lk je,.slice a l.length cap]).kept (World.grownBy_alloc _ _ none) (by simp)).kept (World.grownBy_alloc _ _ none) (by simp);have hZ1:Za (((w.alloc (.cells #[.int .i64 K.major,.int .i64 K.minor,.slice qe lk je,.slice a l.length cap] 27)).alloc (.cells #[.int .i64 0,.int .i64 0,.slice none 0 0,.slice none 0 0] 27)).alloc (.cells #[.bool false] 4)) (w.heap.size+1) 27 #[.int .i64 0,.int .i64 0,.slice none 0 0,.slice none 0 0]:=by
  have:=(Za.new (w.alloc (.cells #[.int .i64 K.major,.int .i64 K.minor,.slice qe lk je,.slice a l.length cap] 27)) 27 #[.int .i64 0,.int .i64 0,.slice none 0 0,.slice none 0 0]).kept (World.grownBy_alloc _ (.cells #[.bool false] 4) none) (by simp)
  rw [World.size_alloc] at this;exact this
 have hD1:Za (((w.alloc (.cells #[.int .i64 K.major,.int .i64 K.minor,.slice qe lk je,.slice a l.length cap] 27)).alloc (.cells #[.int .i64 0,.int .i64 0,.slice none 0 0,.slice none 0 0] 27)).alloc (.cells #[.bool false] 4)) (w.heap.size+2) 4 #[.bool false]:=by
  have:=Za.new ((w.alloc (.cells #[.int .i64 K.major,.int .i64 K.minor,.slice qe lk je,.slice a l.length cap] 27)).alloc (.cells #[.int .i64 0,.int .i64 0,.slice none 0 0,.slice none 0 0] 27)) 4 #[.bool false]
  rw [World.size_alloc,World.size_alloc] at this;exact this
 have hs1:((((w.alloc (.cells #[.int .i64 K.major,.int .i64 K.minor,.slice qe lk je,.slice a l.length cap] 27)).alloc (.cells #[.int .i64 0,.int .i64 0,.slice none 0 0,.slice none 0 0] 27)).alloc (.cells #[.bool false] 4))).heap.size=w.heap.size+3:=by simp
 have HPK:Hid (Calls Tryz.prog 61 #[.agg #[.int .i64 K.major,.int .i64 K.minor,.slice qe lk je,.slice a l.length cap],.func (.func 78) #[] #[.pointer (some ⟨w.heap.size+2,0,none⟩)]] (((w.alloc (.cells #[.int .i64 K.major,.int .i64 K.minor,.slice qe lk je,.slice a l.length cap] 27)).alloc (.cells #[.int .i64 0,.int .i64 0,.slice none 0 0,.slice none 0 0] 27)).alloc (.cells #[.bool false] 4)) fun e w'=>
   (Zaq K (l.map PV.plc)≠0∧e=.returned (.tuple #[.agg #[.int .i64 0,.int .i64 0,.slice none 0 0,.slice none 0 0],.int .i64 (Zaq K (l.map PV.plc))])∧Below (w.heap.size+3) (((w.alloc (.cells #[.int .i64 K.major,.int .i64 K.minor,.slice qe lk je,.slice a l.length cap] 27)).alloc (.cells #[.int .i64 0,.int .i64 0,.slice none 0 0,.slice none 0 0] 27)).alloc (.cells #[.bool false] 4)) w')∨
   (Zaq K (l.map PV.plc)=0∧∃ (v':Value) (l':List PV),e=.returned (.tuple #[v',.int .i64 0])∧l'.map PV.plc=(Zbb (l.map PV.plc)).1∧l'.map (·.mod)=l.map (·.mod)∧Zau (w.heap.size+3) w' v' K l'∧Za w' (w.heap.size+2) 4 #[.bool (Zbb (l.map PV.plc)).2]∧Below (w.heap.size+2) (((w.alloc (.cells #[.int .i64 K.major,.int .i64 K.minor,.slice qe lk je,.slice a l.length cap] 27)).alloc (.cells #[.int .i64 0,.int .i64 0,.slice none 0 0,.slice none 0 0] 27)).alloc (.cells #[.bool false] 4)) w')):=by
  have h:=packed_any K l (.agg #[.int .i64 K.major,.int .i64 K.minor,.slice qe lk je,.slice a l.length cap]) (((w.alloc (.cells #[.int .i64 K.major,.int .i64 K.minor,.slice qe lk je,.slice a l.length cap] 27)).alloc (.cells #[.int .i64 0,.int .i64 0,.slice none 0 0,.slice none 0 0] 27)).alloc (.cells #[.bool false] 4)) ((HR0.out.below hB1).more hB1.size) hf hfit 78 (.pointer (some ⟨w.heap.size+2,0,none⟩)) (fun W x=>enters_of Tryz.func78 (by kernel_rfl) rfl _ W) (w.heap.size+2) (by rw [hs1];omega) (fun L'=>L'=(Zbb (l.map PV.plc)).1) (fun W=>Za W (w.heap.size+2) 4 #[.bool (Zbb (l.map PV.plc)).2]) (fun W W' B h1 h2 h3=>h3.kept h2 (by rw [hs1] at h1;intro e;have:=Option.some.inj e;omega)) (fun h0 W Bp ve vl l0 hb hbp hp hpl hf0=>by
   rw [hs1] at hbp hp;have h0':Zaq K (l0.map PV.plc)=0:=by rw [hpl];exact h0
   have hb0:=Za.below hD1 hb (by rw [hs1];omega);refine (cpStepF_any K l0 ve vl (w.heap.size+3) Bp (w.heap.size+2) (w.heap.size+2) false W hp hf0 (rg_lens h0').2.2.2 hb0 (by omega) hbp (Nat.le_refl _)).mono ?_;rintro e w' ⟨he,⟨l',h1,h2,h3,h4⟩,h5,h6⟩;rw [hpl] at h1 h5;exact ⟨he,⟨l',h1,h2,by rw [hs1];exact h3,fun B c q1 q2 q3=>h4 B c q1 (by rw [hs1] at q2;exact q2) q3⟩,h5,h6⟩)
  rw [hs1] at h;exact h
 obtain ⟨AA,hAA⟩:∃ AA,AA=stepAns K (l.map PV.plc):=⟨_,rfl⟩;rw [← hAA];have HANS:Hid (AA=if Zaq K (l.map PV.plc)=0 then ((K,(Zbb (l.map PV.plc)).1),(Zbb (l.map PV.plc)).2,0) else ((emptyK,[]),false,Zaq K (l.map PV.plc))):=hAA;clear hAA;obtain ⟨⟨AK,AL⟩,ab,ae⟩:=AA;dsimp only;have HB1:Hid _:=hB1;have HC1:Hid _:=hC1;have HZ1:Hid _:=hZ1;have HD1:Hid _:=hD1;have HFT:Hid (∀ x∈l,x.mod.fits):=hfit;clear hB1 hC1 hZ1 hD1 HR0 hf hfit
 go_enter Tryz.func28,Tryz.ntmps28
 go_wp2_with fail;refine HPK.out.mono ?_;generalize (((w.alloc (.cells #[.int .i64 K.major,.int .i64 K.minor,.slice qe lk je,.slice a l.length cap] 27)).alloc (.cells #[.int .i64 0,.int .i64 0,.slice none 0 0,.slice none 0 0] 27)).alloc (.cells #[.bool false] 4))=w1 at *;have c0:=hs1;clear c0;rintro e w2 hpost;have hb2:Below (w.heap.size+2) w1 w2:=by
  rcases hpost with ⟨_,_,h⟩ | ⟨_,_,_,_,_,_,_,_,h⟩
  ·exact h.mono (by omega)
  ·exact h
 have key:∃ (v':Value) (l':List PV),e=.returned (.tuple #[v',.int .i64 ae])∧l'.map PV.plc=AL∧(∀ x∈l',x.mod.fits)∧Zau (w.heap.size+3) w2 v' AK l'∧Za w2 (w.heap.size+2) 4 #[.bool ab]:=by
  have hans:=HANS.out
  rcases hpost with ⟨h0,he,hb⟩ | ⟨h0,v',l',he,h1,h2,h3,h4,_⟩
  ·rw [if_neg h0] at hans
   injection hans with q1 q2;injection q1 with q3 q4;injection q2 with q5 q6;subst q3 q4 q5 q6;exact ⟨_,[],he,rfl,fun x hx=>by simp at hx,zeroReg_owns _ _,Za.below HD1.out hb (by omega)⟩
  ·rw [if_pos h0] at hans
   injection hans with q1 q2;injection q1 with q3 q4;injection q2 with q5 q6;subst q3 q4 q5 q6;exact ⟨v',l',he,h1,fits_mods h2 HFT.out,h3,h4⟩
 clear hpost HPK HANS HFT;obtain ⟨v',l',rfl,hpl,hft,how,hdc⟩:=key;obtain ⟨ve',vl',rfl,o1,o2,o3⟩:=id how;obtain ⟨ea,ec,rfl⟩:=Zae o1;obtain ⟨pa,pc,rfl⟩:=Zae o2;clear o1 o2 o3;generalize hak:AK.exps.length=ak at *;have HB2:Hid (Below w.heap.size w (w2.alloc (.cells #[.int .i64 AK.major,.int .i64 AK.minor,.slice ea ak ec,.slice pa l'.length pc] 27)).drew):=by
  have:=HB1.out.trans (hb2.mono (by omega))
  exact (this.alloc this.size _).drew
 have HZ2:Hid (Za (w2.alloc (.cells #[.int .i64 AK.major,.int .i64 AK.minor,.slice ea ak ec,.slice pa l'.length pc] 27)).drew (w.heap.size+1) 27 #[.int .i64 0,.int .i64 0,.slice none 0 0,.slice none 0 0]):=(((Za.below HZ1.out hb2 (by omega)).kept (World.grownBy_alloc _ _ none) (by simp)):Za (w2.alloc _) _ _ _);have HD2:Hid (Za (w2.alloc (.cells #[.int .i64 AK.major,.int .i64 AK.minor,.slice ea ak ec,.slice pa l'.length pc] 27)).drew (w.heap.size+2) 4 #[.bool ab]):=((hdc.kept (World.grownBy_alloc _ _ none) (by simp)):Za (w2.alloc _) _ _ _);have HX2:Hid (Za (w2.alloc (.cells #[.int .i64 AK.major,.int .i64 AK.minor,.slice ea ak ec,.slice pa l'.length pc] 27)).drew w2.heap.size 27 #[.int .i64 AK.major,.int .i64 AK.minor,.slice ea ak ec,.slice pa l'.length pc]):=(Za.new w2 27 _:Za (w2.alloc _) _ _ _);have HO2:Hid (Zau (w.heap.size+3) (w2.alloc (.cells #[.int .i64 AK.major,.int .i64 AK.minor,.slice ea ak ec,.slice pa l'.length pc] 27)).drew (.agg #[.int .i64 AK.major,.int .i64 AK.minor,.slice ea ak ec,.slice pa l'.length pc]) AK l'):=how.below (((Below.refl _ _).alloc (Nat.le_refl _) _).drew);have LX:w.heap.size+2<w2.heap.size:=hdc.lt;have HPL:Hid (l'.map PV.plc=AL):=hpl;have HFT:Hid (∀ x∈l',x.mod.fits):=hft;clear hb2 how hdc hpl hft HB1 HC1 HZ1 HD1;go_upto_region 3 with fail;refine wp_region_noPanic ?_;refine Zba (S:=fun w'=>Za w' w2.heap.size 27 #[.int .i64 AK.major,.int .i64 AK.minor,.slice ea ak ec,.slice pa l'.length pc]∧Za w' (w.heap.size+2) 4 #[.bool ab]) (x:=5) (by kernel_rfl) ?_;generalize (w2.alloc (.cells #[.int .i64 AK.major,.int .i64 AK.minor,.slice ea ak ec,.slice pa l'.length pc] 27)).drew=w3 at *;generalize w2.heap.size=B6 at *;have hS0:Za w3 B6 27 #[.int .i64 AK.major,.int .i64 AK.minor,.slice ea ak ec,.slice pa l'.length pc]∧Za w3 (w.heap.size+2) 4 #[.bool ab]:=⟨HX2.out,HD2.out⟩;refine Zaa 0 14 (.agg #[.int .i64 AK.major,.int .i64 AK.minor,.slice ea ak ec,.slice pa l'.length pc]) rfl (by kernel_rfl) (fun _ _ _ h=>h) hS0 rfl rfl (fun w' hSw=>by have q0:=Za.cell hSw.1 0;have q1:=Za.cell hSw.1 1;have q2:=Za.cell hSw.1 2;have q3:=Za.cell hSw.1 3;simp at q0 q1 q2 q3;clear hSw;go_simp) ?_;simp only [List.setIfInBounds_toArray,List.set_cons_zero,List.set_cons_succ];refine Zaa 1 15 (.bool ab) rfl (by kernel_rfl) (fun _ _ _ h=>h) hS0 rfl rfl (fun w' hSw=>by have q0:=Za.cell hSw.2 0;simp at q0;clear hSw;go_simp) ?_;simp only [List.setIfInBounds_toArray,List.set_cons_zero,List.set_cons_succ];refine Zaa 2 16 (.int .i64 ae) rfl (by kernel_rfl) (fun _ _ _ h=>h) hS0 rfl rfl (fun w' hSw=>by clear hSw;go_simp) ?_;simp only [List.setIfInBounds_toArray,List.set_cons_zero,List.set_cons_succ];clear hS0;obtain ⟨z0,z1,z2,z3⟩:=ZaC HZ2.out;have f0:=Za.frozen HZ2.out 0;have f1:=Za.frozen HZ2.out 1;have f2:=Za.frozen HZ2.out 2;have f3:=Za.frozen HZ2.out 3;have lz:=Za.lt HZ2.out;refine Zam (i:=3) rfl (by kernel_rfl) (fun Kq hK=>?_);go_simp;have hZ9:=sets4 HZ2.out (.int .i64 AK.major) (.int .i64 AK.minor) (.slice ea ak ec) (.slice pa l'.length pc);have hG9:=Zat w3 (w.heap.size+1) (.int .i64 AK.major) (.int .i64 AK.minor) (.slice ea ak ec) (.slice pa l'.length pc);have hX9:=HX2.out.kept hG9 (by intro e;have:=Option.some.inj e;omega);have hD9:=HD2.out.kept hG9 (by intro e;have:=Option.some.inj e;omega);refine hK.out _ _ ⟨hX9,hD9⟩ (fun _=>?_);clear hK;have HZ9:Hid _:=hZ9;have HG9:Hid _:=hG9;clear hX9 z0 z1 z2 z3 f0 f1 f2 f3 lz;refine Zaa 4 3 (.bool ab) rfl (by kernel_rfl) (fun _ _ _ h=>h) (show _∧_ from ⟨HX2.out.kept HG9.out (by intro e;have:=Option.some.inj e;omega),HD2.out.kept HG9.out (by intro e;have:=Option.some.inj e;omega)⟩) rfl rfl (fun w' hSw=>by clear hSw;go_simp) ?_;simp only [List.setIfInBounds_toArray,List.set_cons_zero,List.set_cons_succ];clear hZ9 hG9 hD9;refine Zbo (x:=5) rfl (by kernel_rfl) (by kernel_rfl) (fun Kq hK=>?_);go_simp;refine hK.out _ _ ?_;refine NoPanic.normal ?_;clear hK
 first | go_wp2 | skip
 refine bodyPost_ret (results_ctt_row rfl _ _ _ _ _ _ _ rfl HZ9.out Tryz.underlying27 rfl (by kernel_rfl)) rfl ?_;exact ⟨⟨_,l',rfl,HPL.out,HFT.out,(HO2.out.ZbM HZ2.out (by decide) (by decide) (by decide) (by decide) HG9.out).lower (b:=w.heap.size) (by omega)⟩,HB2.out.grown HG9.out HB2.out.size (fun q hq=>by obtain rfl:=Option.some.inj hq;omega)⟩
theorem compPack_any (K:Ker) (l:List PV) (v:Value) (w:World) (hreg:Zaw w.heap.size w v K l) (hf:K.fits) (hfit:∀ x∈l,x.mod.fits) :
  Calls Tryz.prog 17 #[v] w fun e w'=>(∃ (v':Value) (l':List PV),e=.returned (.tuple #[v',.int .i64 ((packAns K (l.map PV.plc)).2.1:Int),.int .i64 (packAns K (l.map PV.plc)).2.2])∧l'.map PV.plc=(packAns K (l.map PV.plc)).1.2∧(∀ x∈l',x.mod.fits)∧Zau w.heap.size w' v' (packAns K (l.map PV.plc)).1.1 l')∧Below w.heap.size w w':=by
 have HR0:Hid (Zaw w.heap.size w v K l):=hreg;obtain ⟨ve,vl,rfl,hE,hL⟩:=hreg;obtain ⟨qe,je,rfl,-,-⟩:=hE;obtain ⟨⟨a,cap,rfl,-,-⟩,-⟩:=hL;generalize hlk:K.exps.length=lk at *;have hB1:Below w.heap.size w (((w.alloc (.cells #[.int .i64 K.major,.int .i64 K.minor,.slice qe lk je,.slice a l.length cap] 27)).alloc (.cells #[.int .i64 0,.int .i64 0,.slice none 0 0,.slice none 0 0] 27)).alloc (.cells #[.int .i64 0] 3)):=(((Below.refl _ _).alloc (Nat.le_refl _) _).alloc (by simp) _).alloc (by simp;omega) _;have hC1:Za (((w.alloc (.cells #[.int .i64 K.major,.int .i64 K.minor,.slice qe lk je,.slice a l.length cap] 27)).alloc (.cells #[.int .i64 0,.int .i64 0,.slice none 0 0,.slice none 0 0] 27)).alloc (.cells #[.int .i64 0] 3)) w.heap.size 27 #[.int .i64 K.major,.int .i64 K.minor,.slice qe lk je,.slice a l.length cap]:=((Za.new w 27 #[.int .i64 K.major,.int .i64 K.minor,.slice qe lk je,.slice a l.length cap]).kept (World.grownBy_alloc _ _ none) (by simp)).kept (World.grownBy_alloc _ _ none) (by simp);have hZ1:Za (((w.alloc (.cells #[.int .i64 K.major,.int .i64 K.minor,.slice qe lk je,.slice a l.length cap] 27)).alloc (.cells #[.int .i64 0,.int .i64 0,.slice none 0 0,.slice none 0 0] 27)).alloc (.cells #[.int .i64 0] 3)) (w.heap.size+1) 27 #[.int .i64 0,.int .i64 0,.slice none 0 0,.slice none 0 0]:=by
  have:=(Za.new (w.alloc (.cells #[.int .i64 K.major,.int .i64 K.minor,.slice qe lk je,.slice a l.length cap] 27)) 27 #[.int .i64 0,.int .i64 0,.slice none 0 0,.slice none 0 0]).kept (World.grownBy_alloc _ (.cells #[.int .i64 0] 3) none) (by simp)
  rw [World.size_alloc] at this;exact this
 have hD1:Za (((w.alloc (.cells #[.int .i64 K.major,.int .i64 K.minor,.slice qe lk je,.slice a l.length cap] 27)).alloc (.cells #[.int .i64 0,.int .i64 0,.slice none 0 0,.slice none 0 0] 27)).alloc (.cells #[.int .i64 0] 3)) (w.heap.size+2) 3 #[.int .i64 0]:=by
  have:=Za.new ((w.alloc (.cells #[.int .i64 K.major,.int .i64 K.minor,.slice qe lk je,.slice a l.length cap] 27)).alloc (.cells #[.int .i64 0,.int .i64 0,.slice none 0 0,.slice none 0 0] 27)) 3 #[.int .i64 0]
  rw [World.size_alloc,World.size_alloc] at this;exact this
 have hs1:((((w.alloc (.cells #[.int .i64 K.major,.int .i64 K.minor,.slice qe lk je,.slice a l.length cap] 27)).alloc (.cells #[.int .i64 0,.int .i64 0,.slice none 0 0,.slice none 0 0] 27)).alloc (.cells #[.int .i64 0] 3))).heap.size=w.heap.size+3:=by simp
 have HPK:Hid (Calls Tryz.prog 61 #[.agg #[.int .i64 K.major,.int .i64 K.minor,.slice qe lk je,.slice a l.length cap],.func (.func 62) #[] #[.pointer (some ⟨w.heap.size+2,0,none⟩)]] (((w.alloc (.cells #[.int .i64 K.major,.int .i64 K.minor,.slice qe lk je,.slice a l.length cap] 27)).alloc (.cells #[.int .i64 0,.int .i64 0,.slice none 0 0,.slice none 0 0] 27)).alloc (.cells #[.int .i64 0] 3)) fun e w'=>
   (Zaq K (l.map PV.plc)≠0∧e=.returned (.tuple #[.agg #[.int .i64 0,.int .i64 0,.slice none 0 0,.slice none 0 0],.int .i64 (Zaq K (l.map PV.plc))])∧Below (w.heap.size+3) (((w.alloc (.cells #[.int .i64 K.major,.int .i64 K.minor,.slice qe lk je,.slice a l.length cap] 27)).alloc (.cells #[.int .i64 0,.int .i64 0,.slice none 0 0,.slice none 0 0] 27)).alloc (.cells #[.int .i64 0] 3)) w')∨
   (Zaq K (l.map PV.plc)=0∧∃ (v':Value) (l':List PV),e=.returned (.tuple #[v',.int .i64 0])∧l'.map PV.plc=packFrom 0 (l.map PV.plc)∧l'.map (·.mod)=l.map (·.mod)∧Zau (w.heap.size+3) w' v' K l'∧Za w' (w.heap.size+2) 3 #[.int .i64 (offFrom 0 (l.map PV.plc):Int)]∧Below (w.heap.size+2) (((w.alloc (.cells #[.int .i64 K.major,.int .i64 K.minor,.slice qe lk je,.slice a l.length cap] 27)).alloc (.cells #[.int .i64 0,.int .i64 0,.slice none 0 0,.slice none 0 0] 27)).alloc (.cells #[.int .i64 0] 3)) w')):=by
  have h:=packed_any K l (.agg #[.int .i64 K.major,.int .i64 K.minor,.slice qe lk je,.slice a l.length cap]) (((w.alloc (.cells #[.int .i64 K.major,.int .i64 K.minor,.slice qe lk je,.slice a l.length cap] 27)).alloc (.cells #[.int .i64 0,.int .i64 0,.slice none 0 0,.slice none 0 0] 27)).alloc (.cells #[.int .i64 0] 3)) ((HR0.out.below hB1).more hB1.size) hf hfit 62 (.pointer (some ⟨w.heap.size+2,0,none⟩)) (fun W x=>enters_of Tryz.func62 (by kernel_rfl) rfl _ W) (w.heap.size+2) (by rw [hs1];omega) (fun L'=>L'=packFrom 0 (l.map PV.plc)) (fun W=>Za W (w.heap.size+2) 3 #[.int .i64 (offFrom 0 (l.map PV.plc):Int)]) (fun W W' B h1 h2 h3=>h3.kept h2 (by rw [hs1] at h1;intro e;have:=Option.some.inj e;omega)) (fun h0 W Bp ve vl l0 hb hbp hp hpl hf0=>by
   rw [hs1] at hbp hp;have h0':Zaq K (l0.map PV.plc)=0:=by rw [hpl];exact h0
   have hb0:=Za.below hD1 hb (by rw [hs1];omega);refine (cpPackF_any K l0 ve vl (w.heap.size+3) Bp (w.heap.size+2) (w.heap.size+2) W hp hf0 h0' hb0 (by omega) hbp (Nat.le_refl _)).mono ?_;rintro e w' ⟨he,⟨l',h1,h2,h3,h4⟩,h5,h6⟩;rw [hpl] at h1 h5;exact ⟨he,⟨l',h1,h2,by rw [hs1];exact h3,fun B c q1 q2 q3=>h4 B c q1 (by rw [hs1] at q2;exact q2) q3⟩,h5,h6⟩)
  rw [hs1] at h;exact h
 obtain ⟨AA,hAA⟩:∃ AA,AA=packAns K (l.map PV.plc):=⟨_,rfl⟩;rw [← hAA];have HANS:Hid (AA=if Zaq K (l.map PV.plc)=0 then ((K,packFrom 0 (l.map PV.plc)),offFrom 0 (l.map PV.plc),0) else ((emptyK,[]),0,Zaq K (l.map PV.plc))):=hAA;clear hAA;obtain ⟨⟨AK,AL⟩,ab,ae⟩:=AA;dsimp only;have HB1:Hid _:=hB1;have HC1:Hid _:=hC1;have HZ1:Hid _:=hZ1;have HD1:Hid _:=hD1;have HFT:Hid (∀ x∈l,x.mod.fits):=hfit;clear hB1 hC1 hZ1 hD1 HR0 hf hfit
 go_enter Tryz.func17,Tryz.ntmps17
 go_wp2_with fail;refine HPK.out.mono ?_;generalize (((w.alloc (.cells #[.int .i64 K.major,.int .i64 K.minor,.slice qe lk je,.slice a l.length cap] 27)).alloc (.cells #[.int .i64 0,.int .i64 0,.slice none 0 0,.slice none 0 0] 27)).alloc (.cells #[.int .i64 0] 3))=w1 at *;have c0:=hs1;clear c0;rintro e w2 hpost;have hb2:Below (w.heap.size+2) w1 w2:=by
  rcases hpost with ⟨_,_,h⟩ | ⟨_,_,_,_,_,_,_,_,h⟩
  ·exact h.mono (by omega)
  ·exact h
 have key:∃ (v':Value) (l':List PV),e=.returned (.tuple #[v',.int .i64 ae])∧l'.map PV.plc=AL∧(∀ x∈l',x.mod.fits)∧Zau (w.heap.size+3) w2 v' AK l'∧Za w2 (w.heap.size+2) 3 #[.int .i64 (ab:Int)]:=by
  have hans:=HANS.out
  rcases hpost with ⟨h0,he,hb⟩ | ⟨h0,v',l',he,h1,h2,h3,h4,_⟩
  ·rw [if_neg h0] at hans
   injection hans with q1 q2;injection q1 with q3 q4;injection q2 with q5 q6;subst q3 q4 q5 q6;exact ⟨_,[],he,rfl,fun x hx=>by simp at hx,zeroReg_owns _ _,Za.below HD1.out hb (by omega)⟩
  ·rw [if_pos h0] at hans
   injection hans with q1 q2;injection q1 with q3 q4;injection q2 with q5 q6;subst q3 q4 q5 q6;exact ⟨v',l',he,h1,fits_mods h2 HFT.out,h3,h4⟩
 clear hpost HPK HANS HFT;obtain ⟨v',l',rfl,hpl,hft,how,hdc⟩:=key;obtain ⟨ve',vl',rfl,o1,o2,o3⟩:=id how;obtain ⟨ea,ec,rfl⟩:=Zae o1;obtain ⟨pa,pc,rfl⟩:=Zae o2;clear o1 o2 o3;generalize hak:AK.exps.length=ak at *;have HB2:Hid (Below w.heap.size w (w2.alloc (.cells #[.int .i64 AK.major,.int .i64 AK.minor,.slice ea ak ec,.slice pa l'.length pc] 27)).drew):=by
  have:=HB1.out.trans (hb2.mono (by omega))
  exact (this.alloc this.size _).drew
 have HZ2:Hid (Za (w2.alloc (.cells #[.int .i64 AK.major,.int .i64 AK.minor,.slice ea ak ec,.slice pa l'.length pc] 27)).drew (w.heap.size+1) 27 #[.int .i64 0,.int .i64 0,.slice none 0 0,.slice none 0 0]):=(((Za.below HZ1.out hb2 (by omega)).kept (World.grownBy_alloc _ _ none) (by simp)):Za (w2.alloc _) _ _ _);have HD2:Hid (Za (w2.alloc (.cells #[.int .i64 AK.major,.int .i64 AK.minor,.slice ea ak ec,.slice pa l'.length pc] 27)).drew (w.heap.size+2) 3 #[.int .i64 (ab:Int)]):=((hdc.kept (World.grownBy_alloc _ _ none) (by simp)):Za (w2.alloc _) _ _ _);have HX2:Hid (Za (w2.alloc (.cells #[.int .i64 AK.major,.int .i64 AK.minor,.slice ea ak ec,.slice pa l'.length pc] 27)).drew w2.heap.size 27 #[.int .i64 AK.major,.int .i64 AK.minor,.slice ea ak ec,.slice pa l'.length pc]):=(Za.new w2 27 _:Za (w2.alloc _) _ _ _);have HO2:Hid (Zau (w.heap.size+3) (w2.alloc (.cells #[.int .i64 AK.major,.int .i64 AK.minor,.slice ea ak ec,.slice pa l'.length pc] 27)).drew (.agg #[.int .i64 AK.major,.int .i64 AK.minor,.slice ea ak ec,.slice pa l'.length pc]) AK l'):=how.below (((Below.refl _ _).alloc (Nat.le_refl _) _).drew);have LX:w.heap.size+2<w2.heap.size:=hdc.lt;have HPL:Hid (l'.map PV.plc=AL):=hpl;have HFT:Hid (∀ x∈l',x.mod.fits):=hft;clear hb2 how hdc hpl hft HB1 HC1 HZ1 HD1;go_upto_region 3 with fail;refine wp_region_noPanic ?_;refine Zba (S:=fun w'=>Za w' w2.heap.size 27 #[.int .i64 AK.major,.int .i64 AK.minor,.slice ea ak ec,.slice pa l'.length pc]∧Za w' (w.heap.size+2) 3 #[.int .i64 (ab:Int)]) (x:=5) (by kernel_rfl) ?_;generalize (w2.alloc (.cells #[.int .i64 AK.major,.int .i64 AK.minor,.slice ea ak ec,.slice pa l'.length pc] 27)).drew=w3 at *;generalize w2.heap.size=B6 at *;have hS0:Za w3 B6 27 #[.int .i64 AK.major,.int .i64 AK.minor,.slice ea ak ec,.slice pa l'.length pc]∧Za w3 (w.heap.size+2) 3 #[.int .i64 (ab:Int)]:=⟨HX2.out,HD2.out⟩;refine Zaa 0 14 (.agg #[.int .i64 AK.major,.int .i64 AK.minor,.slice ea ak ec,.slice pa l'.length pc]) rfl (by kernel_rfl) (fun _ _ _ h=>h) hS0 rfl rfl (fun w' hSw=>by have q0:=Za.cell hSw.1 0;have q1:=Za.cell hSw.1 1;have q2:=Za.cell hSw.1 2;have q3:=Za.cell hSw.1 3;simp at q0 q1 q2 q3;clear hSw;go_simp) ?_;simp only [List.setIfInBounds_toArray,List.set_cons_zero,List.set_cons_succ];refine Zaa 1 15 (.int .i64 (ab:Int)) rfl (by kernel_rfl) (fun _ _ _ h=>h) hS0 rfl rfl (fun w' hSw=>by have q0:=Za.cell hSw.2 0;simp at q0;clear hSw;go_simp) ?_;simp only [List.setIfInBounds_toArray,List.set_cons_zero,List.set_cons_succ];refine Zaa 2 16 (.int .i64 ae) rfl (by kernel_rfl) (fun _ _ _ h=>h) hS0 rfl rfl (fun w' hSw=>by clear hSw;go_simp) ?_;simp only [List.setIfInBounds_toArray,List.set_cons_zero,List.set_cons_succ];clear hS0;obtain ⟨z0,z1,z2,z3⟩:=ZaC HZ2.out;have f0:=Za.frozen HZ2.out 0;have f1:=Za.frozen HZ2.out 1;have f2:=Za.frozen HZ2.out 2;have f3:=Za.frozen HZ2.out 3;have lz:=Za.lt HZ2.out;refine Zam (i:=3) rfl (by kernel_rfl) (fun Kq hK=>?_);go_simp;have hZ9:=sets4 HZ2.out (.int .i64 AK.major) (.int .i64 AK.minor) (.slice ea ak ec) (.slice pa l'.length pc);have hG9:=Zat w3 (w.heap.size+1) (.int .i64 AK.major) (.int .i64 AK.minor) (.slice ea ak ec) (.slice pa l'.length pc);have hX9:=HX2.out.kept hG9 (by intro e;have:=Option.some.inj e;omega);have hD9:=HD2.out.kept hG9 (by intro e;have:=Option.some.inj e;omega);refine hK.out _ _ ⟨hX9,hD9⟩ (fun _=>?_);clear hK;have HZ9:Hid _:=hZ9;have HG9:Hid _:=hG9;clear hX9 z0 z1 z2 z3 f0 f1 f2 f3 lz;refine Zaa 4 3 (.int .i64 (ab:Int)) rfl (by kernel_rfl) (fun _ _ _ h=>h) (show _∧_ from ⟨HX2.out.kept HG9.out (by intro e;have:=Option.some.inj e;omega),HD2.out.kept HG9.out (by intro e;have:=Option.some.inj e;omega)⟩) rfl rfl (fun w' hSw=>by clear hSw;go_simp) ?_;simp only [List.setIfInBounds_toArray,List.set_cons_zero,List.set_cons_succ];clear hZ9 hG9 hD9;refine Zbo (x:=5) rfl (by kernel_rfl) (by kernel_rfl) (fun Kq hK=>?_);go_simp;refine hK.out _ _ ?_;refine NoPanic.normal ?_;clear hK
 first | go_wp2 | skip
 refine bodyPost_ret (results_ctt_row rfl _ _ _ _ _ _ _ rfl HZ9.out Tryz.underlying27 rfl (by kernel_rfl)) rfl ?_;exact ⟨⟨_,l',rfl,HPL.out,HFT.out,(HO2.out.ZbM HZ2.out (by decide) (by decide) (by decide) (by decide) HG9.out).lower (b:=w.heap.size) (by omega)⟩,HB2.out.grown HG9.out HB2.out.size (fun q hq=>by obtain rfl:=Option.some.inj hq;omega)⟩
theorem copiedRegistry_any (K:Ker) (l:List PV) (v:Value) (w:World) (h:Zaw w.heap.size w v K l) (hk:K.exps.length*24≤140737488351232) (hl:l.length*128≤140737488351232) (hm:∀ x∈l,x.mod.slim) :
  Calls Tryz.prog 24 #[v] w fun e w'=>(∃ (v':Value) (l':List PV),e=.returned v'∧l'.map PV.plc=l.map PV.plc∧Zau w.heap.size w' v' K l')∧Below w.heap.size w w':=by
 obtain ⟨ii,hii,hz0,hz1,hz2⟩:=infoPlc_parts;obtain ⟨ie,hie,hes,heb,ez,hez,hec⟩:=infoRsE;obtain ⟨ve,vl,rfl,hE,hL⟩:=h;have HCM:Hid (∀ x∈l,∀ W,Below w.heap.size w W→Calls Tryz.prog 25 #[x.modV] W fun e w'=>(∃ re ri rp,e=.returned (.agg #[.string x.mod.name,.int .i64 x.mod.major,.int .i64 x.mod.minor,.string x.mod.text,re,ri,rp])∧Zak W.heap.size w' ⟨x.mod,re,ri,rp,0⟩)∧Below W.heap.size W w'):=fun x hx W hb=>copiedModule_any x.mod x.modV W ⟨x.ve,x.vi,x.vp,rfl,(((hL.2 x hx).below hb).more hb.size)⟩ (hm x hx);obtain ⟨qe,je,rfl,-,-⟩:=id hE;have HRE:Hid (∀ W,Below w.heap.size w W→Zal 2 Exp.cell w.heap.size W (.slice qe K.exps.length je) K.exps):=fun W hb=>hE.below hb;have HAT:Hid (∀ x∈l,ZbH w.heap.size w x):=hL.2;obtain ⟨⟨a,cap,rfl,-,hrow⟩,-⟩:=hL;obtain ⟨ma,mi,ks⟩:=K;dsimp only at *;have HB0:Hid (Below w.heap.size w (((w.alloc (.cells #[.int .i64 ma,.int .i64 mi,.slice qe ks.length je,.slice a l.length cap] 27)).alloc (.cells #[.int .i64 0,.int .i64 0,.slice none 0 0,.slice none 0 0] 27)).alloc (.cells #[.int .i64 ma,.int .i64 mi,.slice qe ks.length je,.slice none 0 0] 27))):=(((Below.refl _ _).alloc (Nat.le_refl _) _).alloc (by simp) _).alloc (by simp;omega) _;have HC0:Hid (Za (((w.alloc (.cells #[.int .i64 ma,.int .i64 mi,.slice qe ks.length je,.slice a l.length cap] 27)).alloc (.cells #[.int .i64 0,.int .i64 0,.slice none 0 0,.slice none 0 0] 27)).alloc (.cells #[.int .i64 ma,.int .i64 mi,.slice qe ks.length je,.slice none 0 0] 27)) w.heap.size 27 #[.int .i64 ma,.int .i64 mi,.slice qe ks.length je,.slice a l.length cap]):=((Za.new w 27 #[.int .i64 ma,.int .i64 mi,.slice qe ks.length je,.slice a l.length cap]).kept (World.grownBy_alloc _ _ none) (by simp)).kept (World.grownBy_alloc _ _ none) (by simp);have HD0:Hid (Za (((w.alloc (.cells #[.int .i64 ma,.int .i64 mi,.slice qe ks.length je,.slice a l.length cap] 27)).alloc (.cells #[.int .i64 0,.int .i64 0,.slice none 0 0,.slice none 0 0] 27)).alloc (.cells #[.int .i64 ma,.int .i64 mi,.slice qe ks.length je,.slice none 0 0] 27)) (w.heap.size+1) 27 #[.int .i64 0,.int .i64 0,.slice none 0 0,.slice none 0 0]):=by
  have:=(Za.new (w.alloc (.cells #[.int .i64 ma,.int .i64 mi,.slice qe ks.length je,.slice a l.length cap] 27)) 27 #[.int .i64 0,.int .i64 0,.slice none 0 0,.slice none 0 0]).kept (World.grownBy_alloc _ (.cells #[.int .i64 ma,.int .i64 mi,.slice qe ks.length je,.slice none 0 0] 27) none) (by simp)
  rw [World.size_alloc] at this;exact this
 have HX0:Hid (Za (((w.alloc (.cells #[.int .i64 ma,.int .i64 mi,.slice qe ks.length je,.slice a l.length cap] 27)).alloc (.cells #[.int .i64 0,.int .i64 0,.slice none 0 0,.slice none 0 0] 27)).alloc (.cells #[.int .i64 ma,.int .i64 mi,.slice qe ks.length je,.slice none 0 0] 27)) (w.heap.size+2) 27 #[.int .i64 ma,.int .i64 mi,.slice qe ks.length je,.slice none 0 0]):=by
  have:=Za.new ((w.alloc (.cells #[.int .i64 ma,.int .i64 mi,.slice qe ks.length je,.slice a l.length cap] 27)).alloc (.cells #[.int .i64 0,.int .i64 0,.slice none 0 0,.slice none 0 0] 27)) 27 #[.int .i64 ma,.int .i64 mi,.slice qe ks.length je,.slice none 0 0]
  rw [World.size_alloc,World.size_alloc] at this;exact this
 have c0:=Za.cell HC0.out 0;have c1:=Za.cell HC0.out 1;have c2:=Za.cell HC0.out 2;simp only [List.getElem?_toArray,List.getElem?_cons_succ,List.getElem?_cons_zero] at c0 c1 c2
 go_enter Tryz.func24,Tryz.ntmps24
 go_upto_region 2 with fail;clear c0 c1 c2;generalize (((w.alloc (.cells #[.int .i64 ma,.int .i64 mi,.slice qe ks.length je,.slice a l.length cap] 27)).alloc (.cells #[.int .i64 0,.int .i64 0,.slice none 0 0,.slice none 0 0] 27)).alloc (.cells #[.int .i64 ma,.int .i64 mi,.slice qe ks.length je,.slice none 0 0] 27))=w3 at *;have HB1:=HB0;have HC1:=HC0;have HD1:=HD0;have HX1:=HX0;clear HB0 HC0 HD0 HX0;have HO3:Hid ((w3.alloc (.cells #[] 129)).ownsRow w.heap.size 129 2 (.slice (some ⟨w3.heap.size,0,none⟩) 0 0) 0 []):=own_empty HB1.out.size;have ba:Below w3.heap.size w3 (w3.alloc (.cells #[] 129)):=(Below.refl _ _).alloc (Nat.le_refl _) _;have HB4:Hid (Below _ _ _):=HB1.out.trans (ba.mono HB1.out.size);have HC4:Hid (Za _ _ _ _):=HC1.out.below ba HC1.out.lt;have HD4:Hid (Za _ _ _ _):=HD1.out.below ba HD1.out.lt;have HX4:Hid (Za _ _ _ _):=HX1.out.below ba HX1.out.lt;clear ba;have c2:=Za.cell HC4.out 2;simp only [List.getElem?_toArray,List.getElem?_cons_succ,List.getElem?_cons_zero] at c2;have hkb:ks.length*24≤140737488355328:=by omega
 have HKB:Hid (ks.length*24≤140737488355328):=hkb;clear hkb;go_wp2_with (at_builtin;refine wpList_plain rfl fun K hK=>op_append_row (C:=expC) (cells:=Exp.cell) (sz:=2) (by decide) (fun _=>rfl) expC_at _ _ _ rfl w.heap.size 129 ie ez 24 Tryz.underlying22 hie hez hes heb hec w3.heap.size rfl HO3.out _ ks rfl w.heap.size (HRE.out _ HB4.out) (one_exps _) HKB.out (Nat.le_trans HB1.out.size (by simp)) ?_;intro r w5 hown5 hg5;refine hK _ _ ?_;obtain ⟨re,ce,rfl⟩:=Zae hown5;have HO5:Hid (w5.ownsRow w.heap.size 129 2 (.slice re ks.length ce) ks.length (ks.flatMap expC)):=hown5;have HC5:Hid (Za _ _ _ _):=ZaB HC4.out HO3.out (by decide) hg5;have HD5:Hid (Za _ _ _ _):=ZaB HD4.out HO3.out (by decide) hg5;have HX5:Hid (Za _ _ _ _):=ZaB HX4.out HO3.out (by decide) hg5;have HB5:Hid (Below _ _ _):=HB4.out.grown hg5 HB4.out.size (fun k hk=>ZaP HO3.out k hk);clear hown5 hg5 HO3 HB4 HC4 HD4 HX4 HB1 HC1 HD1 HX1 c2 HRE hE hK;have x2:=Za.cell HX5.out 2;have xf:=Za.frozen HX5.out 2;simp only [List.getElem?_toArray,List.getElem?_cons_succ,List.getElem?_cons_zero] at x2;have hg6:=Zai w5 (w.heap.size+2) 2 (.slice re ks.length ce);have HX6:Hid (Za _ _ _ _):=Za.set 2 (.slice re ks.length ce) HX5.out;have HO6:Hid (World.ownsRow _ _ _ _ _ _ _):=ZaE HO5.out HX5.out (by decide) 2 (.slice re ks.length ce);have HC6:Hid (Za _ _ _ _):=HC5.out.kept hg6 (by simp);have HD6:Hid (Za _ _ _ _):=HD5.out.kept hg6 (by simp);have HB6:Hid (Below _ _ _):=HB5.out.grown hg6 HB5.out.size (fun q hq=>by obtain rfl:=Option.some.inj hq;omega);clear hg6 HX5 HO5 HC5 HD5 HB5);clear x2 xf;generalize w5.setCell ⟨w.heap.size+2,2,none⟩ (.slice re ks.length ce)=w6 at *;replace HX6:Hid (Za w6 (w.heap.size+2) 27 #[.int .i64 ma,.int .i64 mi,.slice re ks.length ce,.slice none 0 0]):=HX6
 go_loopw [4] (fun i wr=>∃ (j:Nat) (acc:List PV) (vl:Value),j≤l.length∧i=.int .i64 j∧acc.length=j∧Hid (acc.map PV.plc=(l.take j).map PV.plc)∧Hid (wr.ownsRow w.heap.size 57 8 vl acc.length (acc.flatMap pvC))∧Hid (∀ y∈acc,Zak w.heap.size wr y)∧Hid (wr.ownsRow w.heap.size 129 2 (.slice re ks.length ce) ks.length (ks.flatMap expC))∧Hid (Za wr w.heap.size 27 #[.int .i64 ma,.int .i64 mi,.slice qe ks.length je,.slice a l.length cap])∧Hid (Za wr (w.heap.size+1) 27 #[.int .i64 0,.int .i64 0,.slice none 0 0,.slice none 0 0])∧Hid (Za wr (w.heap.size+2) 27 #[.int .i64 ma,.int .i64 mi,.slice re ks.length ce,vl])∧Hid (Below w.heap.size w wr)) (fun i _=>l.length-(intOf i).toNat)
 case atStart=>exact ⟨0,[],.slice none 0 0,Nat.zero_le _,rfl,rfl,(rfl:([]:List PV).map PV.plc=(l.take 0).map PV.plc),World.ownsRow_nil _ _ _ _,(fun y hy=>by simp at hy),HO6.out,HC6.out,HD6.out,HX6.out,HB6.out⟩
 case round=>
  clear HB6 HC6 HD6 HX6 HO6;obtain ⟨j,acc,vl,hj,rfl,hacc,HPL,HOL,HYS,HOE,HC,HD,HX,HB⟩:=hrel;obtain ⟨al,cl,rfl⟩:=Zae HOL.out;have HAC:Hid (acc.length=j):=hacc;clear hacc;have r3:=Za.cell HC.out 3;simp only [List.getElem?_toArray,List.getElem?_cons_succ,List.getElem?_cons_zero] at r3;have HLW:Hid (w.heap.size+2<wr.heap.size):=HX.out.lt
  by_cases hlt:j<l.length
  ·obtain ⟨x,hx⟩:∃ x,l[j]?=some x:=⟨_,List.getElem?_eq_getElem hlt⟩
   have hxm:=List.mem_of_getElem? hx
   rcases hrow with h | ⟨b,off,rfl,hbn,hcells⟩
   ·subst h;simp at hlt
   have hjl:(j:Int)<(l.length:Int):=by omega
   have hcl:∀ i,i<8→∀ W,Below w.heap.size w W→W.cell? ⟨b,off+j*8+i,none⟩=some (PV.cell x i):=fun i hi W hb=>(hb.cell (p:=⟨b,off+j*8+i,none⟩) hbn).trans (hcells j x hx i hi);have HCX:=HCM.out x hxm;have HTK:Hid ((l.take (j+1)).map PV.plc=(l.take j).map PV.plc++[x.plc]):=by
    show _=_
    rw [List.take_add_one,hx,List.map_append]
    rfl
   have hpx:=HAT.out x hxm;obtain ⟨⟨pe,ke,e4,-⟩,⟨pi,ki,e5,-⟩,⟨pp,kp,e6,-⟩⟩:=hpx;obtain ⟨⟨N,xa,xi,T,es,is,ps⟩,vxe,vxi,vxp,fi⟩:=x;dsimp only at e4 e5 e6;subst e4 e5 e6;dsimp only [PV.modV,PV.plc] at HCX HTK;have HCL:Hid (∀ W,Below w.heap.size w W→W.cell? ⟨b,off+j*8,none⟩=some (.string N)∧W.cell? ⟨b,off+j*8+1,none⟩=some (.int .i64 xa)∧W.cell? ⟨b,off+j*8+2,none⟩=some (.int .i64 xi)∧W.cell? ⟨b,off+j*8+3,none⟩=some (.string T)∧W.cell? ⟨b,off+j*8+4,none⟩=some (.slice pe es.length ke)∧W.cell? ⟨b,off+j*8+5,none⟩=some (.slice pi is.length ki)∧W.cell? ⟨b,off+j*8+6,none⟩=some (.slice pp ps.length kp)∧W.cell? ⟨b,off+j*8+7,none⟩=some (.int .i64 fi)):=fun W hb=>⟨hcl 0 (by omega) W hb,hcl 1 (by omega) W hb,hcl 2 (by omega) W hb,hcl 3 (by omega) W hb,hcl 4 (by omega) W hb,hcl 5 (by omega) W hb,hcl 6 (by omega) W hb,hcl 7 (by omega) W hb⟩;have HCC:Hid _:=HCX;have hj0:¬ ((j:Int)<0):=by omega
   have hb128:(j+1)*128≤140737488355328:=by omega
   have HJB:Hid ((j+1)*128≤140737488355328):=hb128;clear hcl hcells hx hxm HCX hb128;go_wp2_with fail;refine wp_region_noPanic ?_;refine Zba (S:=fun w'=>Za w' w.heap.size 27 #[.int .i64 ma,.int .i64 mi,.slice qe ks.length je,.slice (some ⟨b,off,none⟩) l.length cap]∧Za w' (w.heap.size+2) 27 #[.int .i64 ma,.int .i64 mi,.slice re ks.length ce,.slice al acc.length cl]∧Below w.heap.size w w') (x:=19) (by kernel_rfl) ?_;have HOL1:Hid (wr.drew.ownsRow w.heap.size 57 8 (.slice al acc.length cl) acc.length (acc.flatMap pvC)):=HOL.out.drew;have HYS1:Hid (∀ y∈acc,Zak w.heap.size wr.drew y):=fun y hy=>(HYS.out y hy).below ((Below.refl _ _).drew);have HOE1:Hid (wr.drew.ownsRow w.heap.size 129 2 (.slice re ks.length ce) ks.length (ks.flatMap expC)):=HOE.out.drew;have HC1:Hid (Za wr.drew w.heap.size 27 #[.int .i64 ma,.int .i64 mi,.slice qe ks.length je,.slice (some ⟨b,off,none⟩) l.length cap]):=HC;have HD1:Hid (Za wr.drew (w.heap.size+1) 27 #[.int .i64 0,.int .i64 0,.slice none 0 0,.slice none 0 0]):=HD;have HX1:Hid (Za wr.drew (w.heap.size+2) 27 #[.int .i64 ma,.int .i64 mi,.slice re ks.length ce,.slice al acc.length cl]):=HX;have HB1:Hid (Below w.heap.size w wr.drew):=HB.out.drew;have HLW1:Hid (w.heap.size+2<wr.drew.heap.size):=HLW;clear HOL HYS HOE HC HD HX HB HLW r3;generalize wr.drew=wd at *;have hS0:Za wd w.heap.size 27 #[.int .i64 ma,.int .i64 mi,.slice qe ks.length je,.slice (some ⟨b,off,none⟩) l.length cap]∧Za wd (w.heap.size+2) 27 #[.int .i64 ma,.int .i64 mi,.slice re ks.length ce,.slice al acc.length cl]∧Below w.heap.size w wd:=⟨HC1.out,HX1.out,HB1.out⟩;refine Zaa 0 22 (.pointer (some ⟨w.heap.size+2,3,none⟩)) rfl (by kernel_rfl) (fun _ _ _ h=>h) hS0 rfl rfl (fun w' hSw=>by clear hSw;go_simp) ?_;simp only [List.setIfInBounds_toArray,List.set_cons_zero,List.set_cons_succ];refine Zaa 1 23 (.slice al acc.length cl) rfl (by kernel_rfl) (fun _ _ _ h=>h) hS0 rfl rfl (fun w' hSw=>by have q:=Za.cell hSw.2.1 3;simp only [List.getElem?_toArray,List.getElem?_cons_succ,List.getElem?_cons_zero] at q;clear hSw;go_simp) ?_;simp only [List.setIfInBounds_toArray,List.set_cons_zero,List.set_cons_succ];refine Zaa 2 24 (.pointer (some ⟨w.heap.size,3,none⟩)) rfl (by kernel_rfl) (fun _ _ _ h=>h) hS0 rfl rfl (fun w' hSw=>by clear hSw;go_simp) ?_;simp only [List.setIfInBounds_toArray,List.set_cons_zero,List.set_cons_succ];refine Zaa 3 25 (.slice (some ⟨b,off,none⟩) l.length cap) rfl (by kernel_rfl) (fun _ _ _ h=>h) hS0 rfl rfl (fun w' hSw=>by have q:=Za.cell hSw.1 3;simp only [List.getElem?_toArray,List.getElem?_cons_succ,List.getElem?_cons_zero] at q;clear hSw;go_simp) ?_;simp only [List.setIfInBounds_toArray,List.set_cons_zero,List.set_cons_succ];refine Zaa 4 26 (.int .i64 (j:Int)) rfl (by kernel_rfl) (fun _ _ _ h=>h) hS0 rfl rfl (fun w' hSw=>by clear hSw;go_simp) ?_;simp only [List.setIfInBounds_toArray,List.set_cons_zero,List.set_cons_succ];refine Zaa 5 27 (.pointer (some ⟨b,off+j*8,none⟩)) rfl (by kernel_rfl) (fun _ _ _ h=>h) hS0 rfl rfl (fun w' hSw=>by clear hSw;go_simp) ?_;simp only [List.setIfInBounds_toArray,List.set_cons_zero,List.set_cons_succ];refine Zaa 6 28 (.pointer (some ⟨b,off+j*8,none⟩)) rfl (by kernel_rfl) (fun _ _ _ h=>h) hS0 rfl rfl (fun w' hSw=>by clear hSw;go_simp) ?_;simp only [List.setIfInBounds_toArray,List.set_cons_zero,List.set_cons_succ];refine Zaa 7 29 (.agg #[.string N,.int .i64 xa,.int .i64 xi,.string T,.slice pe es.length ke,.slice pi is.length ki,.slice pp ps.length kp]) rfl (by kernel_rfl) (fun _ _ _ h=>h) hS0 rfl rfl (fun w' hSw=>by obtain ⟨q0,q1,q2,q3,q4,q5,q6,q7⟩:=HCL.out w' hSw.2.2;clear hSw;go_simp) ?_;simp only [List.setIfInBounds_toArray,List.set_cons_zero,List.set_cons_succ];refine Zaa 9 31 (.pointer (some ⟨w.heap.size,3,none⟩)) rfl (by kernel_rfl) (fun _ _ _ h=>h) hS0 rfl rfl (fun w' hSw=>by clear hSw;go_simp) ?_;simp only [List.setIfInBounds_toArray,List.set_cons_zero,List.set_cons_succ];refine Zaa 10 32 (.slice (some ⟨b,off,none⟩) l.length cap) rfl (by kernel_rfl) (fun _ _ _ h=>h) hS0 rfl rfl (fun w' hSw=>by have q:=Za.cell hSw.1 3;simp only [List.getElem?_toArray,List.getElem?_cons_succ,List.getElem?_cons_zero] at q;clear hSw;go_simp) ?_;simp only [List.setIfInBounds_toArray,List.set_cons_zero,List.set_cons_succ];refine Zaa 11 33 (.int .i64 (j:Int)) rfl (by kernel_rfl) (fun _ _ _ h=>h) hS0 rfl rfl (fun w' hSw=>by clear hSw;go_simp) ?_;simp only [List.setIfInBounds_toArray,List.set_cons_zero,List.set_cons_succ];refine Zaa 12 34 (.pointer (some ⟨b,off+j*8,none⟩)) rfl (by kernel_rfl) (fun _ _ _ h=>h) hS0 rfl rfl (fun w' hSw=>by clear hSw;go_simp) ?_;simp only [List.setIfInBounds_toArray,List.set_cons_zero,List.set_cons_succ];refine Zaa 13 35 (.pointer (some ⟨b,off+j*8+7,none⟩)) rfl (by kernel_rfl) (fun _ _ _ h=>h) hS0 rfl rfl (fun w' hSw=>by clear hSw;go_simp) ?_;simp only [List.setIfInBounds_toArray,List.set_cons_zero,List.set_cons_succ];refine Zaa 14 36 (.int .i64 fi) rfl (by kernel_rfl) (fun _ _ _ h=>h) hS0 rfl rfl (fun w' hSw=>by obtain ⟨q0,q1,q2,q3,q4,q5,q6,q7⟩:=HCL.out w' hSw.2.2;clear hSw;go_simp) ?_;simp only [List.setIfInBounds_toArray,List.set_cons_zero,List.set_cons_succ];clear hS0;refine Zam (i:=8) rfl (by kernel_rfl) (fun K hK=>?_);go_simp;refine (HCC.out _ HB1.out).mono ?_;rintro e wc ⟨⟨re1,re2,re3,rfl,hoy⟩,bb⟩;obtain ⟨s1,k1,e1⟩:=Zae hoy.1;obtain ⟨s2,k2,e2⟩:=Zae hoy.2.1;obtain ⟨s3,k3,e3⟩:=Zae hoy.2.2;dsimp only at e1 e2 e3;subst e1 e2 e3;have HY2:Hid (Zak w.heap.size wc (⟨⟨N,xa,xi,T,es,is,ps⟩,.slice s1 es.length k1,.slice s2 is.length k2,.slice s3 ps.length k3,fi⟩:PV)):=Zak.lower (y:=(⟨⟨N,xa,xi,T,es,is,ps⟩,.slice s1 es.length k1,.slice s2 is.length k2,.slice s3 ps.length k3,fi⟩:PV)) ⟨hoy.1,hoy.2.1,hoy.2.2⟩ HB1.out.size;have HOL2:Hid (World.ownsRow _ _ _ _ _ _ _):=own_below HOL1.out bb;have HYS2:Hid (∀ y∈acc,Zak w.heap.size wc y):=fun y hy=>(HYS1.out y hy).below bb;have HOE2:Hid (World.ownsRow _ _ _ _ _ _ _):=own_below HOE1.out bb;have HC2:Hid (Za _ _ _ _):=HC1.out.below bb HC1.out.lt;have HD2:Hid (Za _ _ _ _):=HD1.out.below bb HD1.out.lt;have HX2:Hid (Za _ _ _ _):=HX1.out.below bb HX1.out.lt;have HB2:Hid (Below _ _ _):=HB1.out.trans (bb.mono HB1.out.size);have HLW2:Hid (w.heap.size+2<wc.heap.size):=Nat.lt_of_lt_of_le HLW1.out bb.size;clear bb hoy HOL1 HYS1 HOE1 HC1 HD1 HX1 HB1 HLW1 HCC;go_simp;refine hK.out _ _ ⟨HC2.out,HX2.out,HB2.out⟩ (fun _=>?_);clear hK K;refine Zam (i:=15) rfl (by kernel_rfl) (fun K hK=>?_);go_simp;refine hK.out _ _ ⟨HC2.out,HX2.out,HB2.out⟩ (fun _=>?_);clear hK K;have ba:Below wc.heap.size wc (wc.alloc (.cells #[.string N,.int .i64 xa,.int .i64 xi,.string T,.slice s1 es.length k1,.slice s2 is.length k2,.slice s3 ps.length k3,.int .i64 fi] 57)):=(Below.refl _ _).alloc (Nat.le_refl _) _;have HOL3:Hid (World.ownsRow _ _ _ _ _ _ _):=own_below HOL2.out ba;have HYS3:Hid (∀ y∈acc,Zak w.heap.size (wc.alloc (.cells #[.string N,.int .i64 xa,.int .i64 xi,.string T,.slice s1 es.length k1,.slice s2 is.length k2,.slice s3 ps.length k3,.int .i64 fi] 57)) y):=fun y hy=>(HYS2.out y hy).below ba;have HOE3:Hid (World.ownsRow _ _ _ _ _ _ _):=own_below HOE2.out ba;have HC3:Hid (Za _ _ _ _):=HC2.out.below ba HC2.out.lt;have HD3:Hid (Za _ _ _ _):=HD2.out.below ba HD2.out.lt;have HX3:Hid (Za _ _ _ _):=HX2.out.below ba HX2.out.lt;have HB3:Hid (Below _ _ _):=HB2.out.trans (ba.mono HB2.out.size);have HLW3:Hid (w.heap.size+2<(wc.alloc (.cells #[.string N,.int .i64 xa,.int .i64 xi,.string T,.slice s1 es.length k1,.slice s2 is.length k2,.slice s3 ps.length k3,.int .i64 fi] 57)).heap.size):=Nat.lt_of_lt_of_le HLW2.out ba.size;have HY3:Hid (Zak w.heap.size (wc.alloc (.cells #[.string N,.int .i64 xa,.int .i64 xi,.string T,.slice s1 es.length k1,.slice s2 is.length k2,.slice s3 ps.length k3,.int .i64 fi] 57)) (⟨⟨N,xa,xi,T,es,is,ps⟩,.slice s1 es.length k1,.slice s2 is.length k2,.slice s3 ps.length k3,fi⟩:PV)):=HY2.out.below ba;have HN3:Hid (Za (wc.alloc (.cells #[.string N,.int .i64 xa,.int .i64 xi,.string T,.slice s1 es.length k1,.slice s2 is.length k2,.slice s3 ps.length k3,.int .i64 fi] 57)) wc.heap.size 57 #[.string N,.int .i64 xa,.int .i64 xi,.string T,.slice s1 es.length k1,.slice s2 is.length k2,.slice s3 ps.length k3,.int .i64 fi]):=Za.new _ _ _;clear ba HOL2 HYS2 HOE2 HC2 HD2 HX2 HB2 HLW2 HY2;refine Zam (i:=16) rfl (by kernel_rfl) (fun K hK=>?_);go_simp;refine hK.out _ _ ⟨HC3.out,HX3.out,HB3.out⟩ (fun _=>?_);clear hK K;generalize wc.alloc (.cells #[.string N,.int .i64 xa,.int .i64 xi,.string T,.slice s1 es.length k1,.slice s2 is.length k2,.slice s3 ps.length k3,.int .i64 fi] 57)=wn at *;generalize wc.heap.size=gn at *;refine Zam (i:=17) rfl (by kernel_rfl) (fun K hK=>?_);refine step_append_lies _ (by rfl) _ _ _ (by rfl) w.heap.size 57 ii _ 8 128 Tryz.underlying25 hii hz0 hz1 hz2 rfl (by omega) (.slice al acc.length cl) acc.length (acc.flatMap pvC) (by rfl) HOL3.out ⟨gn,0,none⟩ 1 1 [.string N,.int .i64 xa,.int .i64 xi,.string T,.slice s1 es.length k1,.slice s2 is.length k2,.slice s3 ps.length k3,.int .i64 fi] (by rfl) rfl (World.news_of_block (cs:=#[.string N,.int .i64 xa,.int .i64 xi,.string T,.slice s1 es.length k1,.slice s2 is.length k2,.slice s3 ps.length k3,.int .i64 fi]) (t:=57) (fr:=(0,0)) HN3.out) (by simp [Value.oneCell']) (by omega) (by have:=HJB.out;have:=HAC.out;unfold maxLen;omega) (by have:=HJB.out;have:=HAC.out;omega) HB3.out.size wn.heap.size rfl ?_;intro g gc w8 hown8 hgrow _ _;have HOL4:Hid (w8.ownsRow w.heap.size 57 8 (.slice (some ⟨g,0,none⟩) (acc.length+1) gc) (acc.length+1) ((acc++[(⟨⟨N,xa,xi,T,es,is,ps⟩,.slice s1 es.length k1,.slice s2 is.length k2,.slice s3 ps.length k3,fi⟩:PV)]).flatMap pvC)):=by
    show w8.ownsRow _ _ _ _ _ _
    rw [List.flatMap_append]
    simpa [pvC] using hown8
   have HYS4:Hid (∀ y∈acc++[(⟨⟨N,xa,xi,T,es,is,ps⟩,.slice s1 es.length k1,.slice s2 is.length k2,.slice s3 ps.length k3,fi⟩:PV)],Zak w.heap.size w8 y):=fun y hy=>by
    rcases List.mem_append.1 hy with hy | hy
    ·exact (HYS3.out y hy).beside HOL3.out hgrow
    ·rw [List.mem_singleton.1 hy]
     exact Zak.beside HY3.out HOL3.out hgrow
   have HOE4:Hid (w8.ownsRow w.heap.size 129 2 (.slice re ks.length ce) ks.length (ks.flatMap expC)):=ZaN HOE3.out HOL3.out (by decide) hgrow;have HC4:Hid (Za w8 _ _ _):=ZaB HC3.out HOL3.out (by decide) hgrow;have HD4:Hid (Za w8 _ _ _):=ZaB HD3.out HOL3.out (by decide) hgrow;have HX4:Hid (Za w8 _ _ _):=ZaB HX3.out HOL3.out (by decide) hgrow;have HB4:Hid (Below _ _ _):=HB3.out.grown hgrow HB3.out.size (fun k hk=>ZaP HOL3.out k hk);clear hown8 hgrow HOL3 HYS3 HOE3 HC3 HD3 HX3 HB3 HLW3 HY3 HN3;refine hK.out _ _ ⟨HC4.out,HX4.out,HB4.out⟩ (fun _=>?_);clear hK K;simp only [Act.put]
   try simp only [List.setIfInBounds_toArray]
   refine Zam (i:=18) rfl (by kernel_rfl) (fun K hK=>?_);go_simp;refine hK.out _ _ ⟨HC4.out,HX4.out,HB4.out⟩ (fun _=>?_);clear hK K;refine Zbo (x:=19) rfl (by kernel_rfl) (by kernel_rfl) (fun K hK=>?_);have x3:=Za.cell HX4.out 3;have xf:=Za.frozen HX4.out 3;simp only [List.getElem?_toArray,List.getElem?_cons_succ,List.getElem?_cons_zero] at x3;have hg6:=Zai w8 (w.heap.size+2) 3 (.slice (some ⟨g,0,none⟩) (acc.length+1) gc);have HX5:Hid (Za _ _ _ _):=Za.set 3 (.slice (some ⟨g,0,none⟩) (acc.length+1) gc) HX4.out;have HOE5:Hid (World.ownsRow _ _ _ _ _ _ _):=ZaE HOE4.out HX4.out (by decide) 3 (.slice (some ⟨g,0,none⟩) (acc.length+1) gc);have HOL5:Hid (World.ownsRow _ _ _ _ _ _ _):=ZaE HOL4.out HX4.out (by decide) 3 (.slice (some ⟨g,0,none⟩) (acc.length+1) gc);have HYS5:Hid (∀ y∈acc++[(⟨⟨N,xa,xi,T,es,is,ps⟩,.slice s1 es.length k1,.slice s2 is.length k2,.slice s3 ps.length k3,fi⟩:PV)],Zak w.heap.size (w8.setCell ⟨w.heap.size+2,3,none⟩ (.slice (some ⟨g,0,none⟩) (acc.length+1) gc)) y):=fun y hy=>(HYS4.out y hy).ZbM HX4.out (by decide) (by decide) (by decide) hg6;have HC5:Hid (Za _ _ _ _):=HC4.out.kept hg6 (by simp);have HD5:Hid (Za _ _ _ _):=HD4.out.kept hg6 (by simp);have HB5:Hid (Below _ _ _):=HB4.out.grown hg6 HB4.out.size (fun q hq=>by obtain rfl:=Option.some.inj hq;omega);clear hg6 HX4 HOE4 HOL4 HYS4 HC4 HD4 HB4;go_simp;refine hK.out _ _ ?_;refine NoPanic.normal ?_;clear hK K x3 xf;have HLA:Hid ((acc++[(⟨⟨N,xa,xi,T,es,is,ps⟩,.slice s1 es.length k1,.slice s2 is.length k2,.slice s3 ps.length k3,fi⟩:PV)]).length=acc.length+1):=by
    show _=_
    rw [List.length_append];rfl
   have HPL2:Hid ((acc++[(⟨⟨N,xa,xi,T,es,is,ps⟩,.slice s1 es.length k1,.slice s2 is.length k2,.slice s3 ps.length k3,fi⟩:PV)]).map PV.plc=(l.take (j+1)).map PV.plc):=by
    show _=_
    rw [List.map_append,HPL.out,HTK.out];rfl
   go_wp2;exact ⟨⟨j+1,acc++[(⟨⟨N,xa,xi,T,es,is,ps⟩,.slice s1 es.length k1,.slice s2 is.length k2,.slice s3 ps.length k3,fi⟩:PV)],_,by omega,by go_num,by rw [HLA.out,HAC.out],HPL2.out,by rw [HLA.out];exact HOL5.out,HYS5.out,HOE5.out,HC5.out,HD5.out,HX5.out,HB5.out⟩,by simp [intOf];omega⟩
  ·obtain rfl:j=l.length:=by omega
   have x0:=Za.cell HX.out 0;have x1:=Za.cell HX.out 1;have x2:=Za.cell HX.out 2;have x3:=Za.cell HX.out 3;have d0:=Za.cell HD.out 0;have d1:=Za.cell HD.out 1;have d2:=Za.cell HD.out 2;have d3:=Za.cell HD.out 3;have df:=Za.frozen HD.out;simp only [List.getElem?_toArray,List.getElem?_cons_succ,List.getElem?_cons_zero] at x0 x1 x2 x3 d0 d1 d2 d3;have hF:=sets4 HD.out (.int .i64 ma) (.int .i64 mi) (.slice re ks.length ce) (.slice al acc.length cl);have hG:=Zat wr (w.heap.size+1) (.int .i64 ma) (.int .i64 mi) (.slice re ks.length ce) (.slice al acc.length cl);have HF:Hid (Za _ _ _ _):=hF;have HG:Hid (World.grownBy _ _ _):=hG;have HPL2:Hid (acc.map PV.plc=l.map PV.plc):=by
    show _=_
    rw [HPL.out,List.take_length]
   clear hF hG HX HC HAT HCM;go_wp2;clear x0 x1 x2 x3 d0 d1 d2 d3 df r3;have hF:=HF.out;have hG:=HG.out
   (try simp only [Exit.inBlock,Exit.then])
   refine bodyPost_ret (results_cell_row rfl _ _ _ _ _ _ _ rfl hF Tryz.underlying27 rfl (by kernel_rfl)) rfl ?_;refine ⟨⟨_,acc,rfl,HPL2.out,?_⟩,HB.out.grown hG HB.out.size (fun q hq=>by obtain rfl:=Option.some.inj hq;omega)⟩;have HR:Zau w.heap.size wr (.agg #[.int .i64 ma,.int .i64 mi,.slice re ks.length ce,.slice al acc.length cl]) ⟨ma,mi,ks⟩ acc:=⟨_,_,rfl,HOE.out,HOL.out,HYS.out⟩;exact Zau.ZbM HR HD.out (by decide) (by decide) (by decide) (by decide) hG
def isStr (u:Value):Prop:=∃ s,u=.string s
def isInt (u:Value):Prop:=∃ a,u=.int .i64 a
def Alike (u u':Value):Prop:=u=u'∨(isStr u∧isStr u')∨(isInt u∧isInt u')
theorem Alike.trans {a b c:Value} (h:Alike a b) (k:Alike b c):Alike a c:=by
 rcases h with rfl | ⟨⟨x,rfl⟩,y,rfl⟩ | ⟨⟨x,rfl⟩,y,rfl⟩
 ·exact k
 ·rcases k with rfl | ⟨_,h⟩ | ⟨⟨z,h⟩,_⟩
  ·exact .inr (.inl ⟨⟨_,rfl⟩,_,rfl⟩)
  ·exact .inr (.inl ⟨⟨_,rfl⟩,h⟩)
  ·cases h
 ·rcases k with rfl | ⟨⟨z,h⟩,_⟩ | ⟨_,h⟩
  ·exact .inr (.inr ⟨⟨_,rfl⟩,_,rfl⟩)
  ·cases h
  ·exact .inr (.inr ⟨⟨_,rfl⟩,h⟩)
theorem Alike.str {u u':Value} (h:Alike u u') (k:isStr u):isStr u':=by
 obtain ⟨s,rfl⟩:=k
 rcases h with rfl | ⟨_,h⟩ | ⟨⟨_,h⟩,_⟩
 ·exact ⟨_,rfl⟩
 ·exact h
 ·cases h
theorem Alike.int {u u':Value} (h:Alike u u') (k:isInt u):isInt u':=by
 obtain ⟨s,rfl⟩:=k
 rcases h with rfl | ⟨⟨_,h⟩,_⟩ | ⟨_,h⟩
 ·exact ⟨_,rfl⟩
 ·cases h
 ·exact h
theorem Alike.slice {a n c u'} (h:Alike (.slice a n c) u'):u'=.slice a n c:=by
 rcases h with rfl | ⟨⟨_,h⟩,_⟩ | ⟨⟨_,h⟩,_⟩
 ·rfl
 ·cases h
 ·cases h
structure Spl (B:Nat) (W W':World):Prop where
 below:Below B W W'
 cell:∀ p u,W.cell? p=some u→(∃ u',W'.cell? p=some u'∧Alike u u')∧W'.frozen? p=W.frozen? p
theorem Spl.refl (B:Nat) (W:World):Spl B W W:=⟨Below.refl _ _,fun _ u h=>⟨⟨u,h,.inl rfl⟩,rfl⟩⟩
theorem Spl.trans {B:Nat} {a b c:World} (h:Spl B a b) (k:Spl B b c):Spl B a c:=
 ⟨h.below.trans k.below,fun p u hu=>by
  obtain ⟨⟨u1,h1,h2⟩,h3⟩:=h.cell p u hu;obtain ⟨⟨u2,k1,k2⟩,k3⟩:=k.cell p u1 h1;exact ⟨⟨u2,k1,h2.trans k2⟩,k3.trans h3⟩⟩
theorem cell_lt {W:World} {p:Addr} {u:Value} (h:W.cell? p=some u):p.block<W.heap.size:=by
 unfold World.cell? at h
 by_cases hk:p.block<W.heap.size
 ·exact hk
 ·rw [Array.getElem?_eq_none (by omega)] at h
  cases h
theorem Spl.of_below {B:Nat} {W W':World} (hb:Below W.heap.size W W') (hB:B≤W.heap.size):Spl B W W':=
 ⟨hb.mono hB,fun _ u h=>⟨⟨u,(hb.cell (cell_lt h)).trans h,.inl rfl⟩,hb.frozen (cell_lt h)⟩⟩
theorem Spl.then {B:Nat} {a W W':World} (h:Spl B a W) (hb:Below W.heap.size W W') (hB:B≤a.heap.size):Spl B a W':=h.trans (Spl.of_below hb (Nat.le_trans hB h.below.size))
theorem Spl.set {B:Nat} {W:World} {b o:Nat} {u:Value} (hu:W.cell? ⟨b,o,none⟩=some u) (hB:B≤b) (u':Value) (ha:Alike u u'):Spl B W (W.setCell ⟨b,o,none⟩ u'):=by
 refine ⟨(Below.refl _ _).setCell hB _,fun p v hv=>?_⟩
 by_cases hp:p.block=b
 ·obtain ⟨pb,po,ps⟩:=p
  obtain rfl:pb=b:=hp;have hlt:=cell_lt hu;dsimp only at hlt;have hset:(W.setCell ⟨pb,o,none⟩ u').heap[pb]?=(W.heap[pb]?).map fun
    | .cells c elem frozen=>.cells (c.setIfInBounds o u') elem frozen
    | o=>o:=by
   show (W.heap.modify pb _)[pb]?=_
   rw [Array.getElem?_eq_getElem (by rw [Array.size_modify];exact hlt),Array.getElem_modify_self,Array.getElem?_eq_getElem hlt]
   rfl
  unfold World.cell? at hu hv ⊢;unfold World.frozen?;dsimp only at hu hv ⊢;rw [hset]
  cases hc:W.heap[pb]? with
  | none=>rw [hc] at hu;cases hu
  | some ob=>
   rw [hc] at hu hv
   cases ob with
   | cells c t fr=>
    obtain ⟨lo,hi⟩:=fr;dsimp only [Option.map_some] at hu hv ⊢;refine ⟨?_,rfl⟩
    by_cases hs:ps.isSome=true
    ·rw [if_pos hs] at hv;cases hv
    ·rw [if_neg hs] at hv ⊢
     by_cases ho:o=po
     ·subst ho
      have huo:c[o]?=some u:=hu;rw [huo] at hv;obtain rfl:=Option.some.inj hv;have hsz:o<c.size:=(Array.getElem?_eq_some_iff.1 huo).1;exact ⟨u',by rw [Array.getElem?_setIfInBounds,if_pos rfl,if_pos hsz],ha⟩
     ·exact ⟨v,by rw [Array.getElem?_setIfInBounds,if_neg ho];exact hv,.inl rfl⟩
   | _=>cases hu
 ·have hne:(W.setCell ⟨b,o,none⟩ u').heap[p.block]?=W.heap[p.block]?:=Below.heap_setCell W ⟨b,o,none⟩ u' p.block hp
  refine ⟨⟨v,?_,.inl rfl⟩,World.frozen?_of_block hne⟩;exact (World.cell?_of_block hne).trans hv
theorem Spl.str {B:Nat} {a W:World} {b o:Nat} {u:Value} (h:Spl B a W) (hu:W.cell? ⟨b,o,none⟩=some u) (hs:isStr u) (hB:B≤b) (s:ByteArray):Spl B a (W.setCell ⟨b,o,none⟩ (.string s)):=h.trans (Spl.set hu hB _ (.inr (.inl ⟨hs,_,rfl⟩)))
theorem Spl.int {B:Nat} {a W:World} {b o:Nat} {u:Value} (h:Spl B a W) (hu:W.cell? ⟨b,o,none⟩=some u) (hs:isInt u) (hB:B≤b) (i:Int):Spl B a (W.setCell ⟨b,o,none⟩ (.int .i64 i)):=h.trans (Spl.set hu hB _ (.inr (.inr ⟨hs,_,rfl⟩)))
def ZbV (B:Nat) (W:World) (v:Value) (n sz off:Nat) (K:Value→Prop):Prop:=
 n≤9223372036854775807∧∃ a cap,v=.slice a n cap∧∀ j,j<n→∃ b u,a=some ⟨b,0,none⟩∧B≤b∧W.cell? ⟨b,j*sz+off,none⟩=some u∧K u∧W.frozen? ⟨b,j*sz+off,none⟩=false
theorem ZbV.kept {B B':Nat} {W W':World} {v:Value} {n sz off:Nat} {K:Value→Prop} (h:ZbV B W v n sz off K) (hs:Spl B' W W') (hK:∀ u u',K u→Alike u u'→K u'):ZbV B W' v n sz off K:=by
 obtain ⟨hn,a,cap,e,h⟩:=h;refine ⟨hn,a,cap,e,fun j hj=>?_⟩;obtain ⟨b,u,h1,h2,h3,h4,h5⟩:=h j hj;obtain ⟨⟨u',k1,k2⟩,k3⟩:=hs.cell _ _ h3;exact ⟨b,u',h1,h2,k1,hK _ _ h4 k2,k3.trans h5⟩
theorem ZbV.keptS {B B':Nat} {W W':World} {v:Value} {n sz off:Nat} (h:ZbV B W v n sz off isStr) (hs:Spl B' W W'):ZbV B W' v n sz off isStr:=h.kept hs fun _ _ a b=>b.str a
theorem ZbV.keptI {B B':Nat} {W W':World} {v:Value} {n sz off:Nat} (h:ZbV B W v n sz off isInt) (hs:Spl B' W W'):ZbV B W' v n sz off isInt:=h.kept hs fun _ _ a b=>b.int a
theorem ZbV.of_own {α:Type} {C:α→List Value} {B base:Nat} {W:World} {v:Value} {sz off:Nat} {e:TypeId} {K:Value→Prop} {l:List α} (h:W.ownsRow base e sz v l.length (l.flatMap C)) (hB:B≤base) (hC:∀ x,(C x).length=sz) (ho:off<sz) (hK:∀ x∈l,∃ u,(C x)[off]?=some u∧K u):ZbV B W v l.length sz off K:=by
 have h2:=h.2
 rcases h2 with ⟨rfl,hn⟩ | ⟨g,cap,cur,rfl,hg,hh,h1,h3,_⟩
 ·exact ⟨by omega,none,0,by rw [hn],fun j hj=>by omega⟩
 ·refine ⟨Nat.le_trans h1 (Nat.le_trans h3 (by decide)),_,cap,rfl,fun j hj=>?_⟩
  obtain ⟨x,hx⟩:∃ x,l[j]?=some x:=⟨_,List.getElem?_eq_getElem hj⟩;obtain ⟨u,hu,hk⟩:=hK x (List.mem_of_getElem? hx);have hlt:j*sz+off<l.length*sz:=by
   have:=Nat.mul_le_mul_right sz (show j+1≤l.length by omega)
   rw [Nat.succ_mul] at this
   omega
  exact ⟨g,u,rfl,Nat.le_trans hB hg,((h.cellAt _ hlt).trans (flat_at hC l j x off hx ho)).trans hu,hk,h.frozenAt _⟩
theorem ZbV.spotS {B:Nat} {W:World} {a:Option Addr} {n m c sz off:Nat} (h:ZbV B W (.slice a n c) m sz off isStr):n=m∧∀ j,j<n→∃ b,a=some ⟨b,0,none⟩∧b<W.heap.size∧∀ W',Spl B W W'→∃ u,W'.cell? ⟨b,j*sz+off,none⟩=some u∧W'.frozen? ⟨b,j*sz+off,none⟩=false∧∀ s,Spl B W (W'.setCell ⟨b,j*sz+off,none⟩ (.string s)):=by
 obtain ⟨_,a',c',e,h⟩:=h;injection e with e1 e2 e3;subst e1 e2;refine ⟨rfl,fun j hj=>?_⟩;obtain ⟨b,u,h1,h2,h3,h4,h5⟩:=h j hj;refine ⟨b,h1,cell_lt h3,fun W' hs=>?_⟩;obtain ⟨⟨u',k1,k2⟩,k3⟩:=hs.cell _ _ h3;exact ⟨u',k1,k3.trans h5,fun s=>hs.str k1 (k2.str h4) h2 s⟩
theorem ZbV.spotI {B:Nat} {W:World} {a:Option Addr} {n m c sz off:Nat} (h:ZbV B W (.slice a n c) m sz off isInt):n=m∧∀ j,j<n→∃ b,a=some ⟨b,0,none⟩∧b<W.heap.size∧∀ W',Spl B W W'→∃ u,W'.cell? ⟨b,j*sz+off,none⟩=some u∧W'.frozen? ⟨b,j*sz+off,none⟩=false∧∀ i,Spl B W (W'.setCell ⟨b,j*sz+off,none⟩ (.int .i64 i)):=by
 obtain ⟨_,a',c',e,h⟩:=h;injection e with e1 e2 e3;subst e1 e2;refine ⟨rfl,fun j hj=>?_⟩;obtain ⟨b,u,h1,h2,h3,h4,h5⟩:=h j hj;refine ⟨b,h1,cell_lt h3,fun W' hs=>?_⟩;obtain ⟨⟨u',k1,k2⟩,k3⟩:=hs.cell _ _ h3;exact ⟨u',k1,k3.trans h5,fun s=>hs.int k1 (k2.int h4) h2 s⟩
def SpMod (B:Nat) (W:World) (v:Value):Prop:=
 ∃ u0 u1 u2 u3 ve vi vp le li lp,v=.agg #[u0,u1,u2,u3,ve,vi,vp]∧ZbV B W ve le 2 0 isStr∧ZbV B W vi li 4 1 isStr∧ZbV B W vp lp 4 0 isInt
theorem SpMod.kept {B B':Nat} {W W':World} {v:Value} (h:SpMod B W v) (hs:Spl B' W W'):SpMod B W' v:=by
 obtain ⟨u0,u1,u2,u3,ve,vi,vp,le,li,lp,e,h1,h2,h3⟩:=h;exact ⟨u0,u1,u2,u3,ve,vi,vp,le,li,lp,e,h1.keptS hs,h2.keptS hs,h3.keptI hs⟩
theorem SpMod.head {B:Nat} {W:World} {u0 u1 u2 u3 v0 v1 v2 v3 ve vi vp:Value} (h:SpMod B W (.agg #[u0,u1,u2,u3,ve,vi,vp])):SpMod B W (.agg #[v0,v1,v2,v3,ve,vi,vp]):=by
 obtain ⟨w0,w1,w2,w3,ve',vi',vp',le,li,lp,e,h1,h2,h3⟩:=h;injection e with e;injection e with e;simp only [List.cons.injEq,and_true] at e;obtain ⟨_,_,_,_,rfl,rfl,rfl⟩:=e;exact ⟨_,_,_,_,_,_,_,_,_,_,rfl,h1,h2,h3⟩
theorem SpMod.slices {B:Nat} {W:World} {u0 u1 u2 u3 ve vi vp:Value} (h:SpMod B W (.agg #[u0,u1,u2,u3,ve,vi,vp])):(∃ a n c,ve=.slice a n c)∧(∃ a n c,vi=.slice a n c)∧∃ a n c,vp=.slice a n c:=by
 obtain ⟨w0,w1,w2,w3,ve',vi',vp',le,li,lp,e,h1,h2,h3⟩:=h;injection e with e;injection e with e;simp only [List.cons.injEq,and_true] at e;obtain ⟨_,_,_,_,rfl,rfl,rfl⟩:=e;exact ⟨by obtain ⟨_,a,c,e,_⟩:=h1;exact ⟨a,_,c,e⟩,by obtain ⟨_,a,c,e,_⟩:=h2;exact ⟨a,_,c,e⟩,by obtain ⟨_,a,c,e,_⟩:=h3;exact ⟨a,_,c,e⟩⟩
def SpPlcs (B:Nat) (W:World) (v:Value) (n:Nat):Prop:=
 n≤9223372036854775807∧∃ a cap,v=.slice a n cap∧∀ j,j<n→∃ b u0 u1 u2 u3 ve vi vp f,a=some ⟨b,0,none⟩∧B≤b∧W.cell? ⟨b,j*8,none⟩=some u0∧W.cell? ⟨b,j*8+1,none⟩=some u1∧W.cell? ⟨b,j*8+2,none⟩=some u2∧W.cell? ⟨b,j*8+3,none⟩=some u3∧W.cell? ⟨b,j*8+4,none⟩=some ve∧W.cell? ⟨b,j*8+5,none⟩=some vi∧W.cell? ⟨b,j*8+6,none⟩=some vp∧W.cell? ⟨b,j*8+7,none⟩=some f∧isInt f∧W.frozen? ⟨b,j*8+7,none⟩=false∧SpMod B W (.agg #[u0,u1,u2,u3,ve,vi,vp])
theorem SpPlcs.kept {B B':Nat} {W W':World} {v:Value} {n:Nat} (h:SpPlcs B W v n) (hs:Spl B' W W'):SpPlcs B W' v n:=by
 obtain ⟨hn,a,cap,e,h⟩:=h;refine ⟨hn,a,cap,e,fun j hj=>?_⟩;obtain ⟨b,u0,u1,u2,u3,ve,vi,vp,f,ea,hb,c0,c1,c2,c3,c4,c5,c6,c7,hf,hz,hm⟩:=h j hj;obtain ⟨⟨w0,d0,_⟩,_⟩:=hs.cell _ _ c0;obtain ⟨⟨w1,d1,_⟩,_⟩:=hs.cell _ _ c1;obtain ⟨⟨w2,d2,_⟩,_⟩:=hs.cell _ _ c2;obtain ⟨⟨w3,d3,_⟩,_⟩:=hs.cell _ _ c3;obtain ⟨⟨w4,d4,a4⟩,_⟩:=hs.cell _ _ c4;obtain ⟨⟨w5,d5,a5⟩,_⟩:=hs.cell _ _ c5;obtain ⟨⟨w6,d6,a6⟩,_⟩:=hs.cell _ _ c6;obtain ⟨⟨w7,d7,a7⟩,z7⟩:=hs.cell _ _ c7;obtain ⟨⟨_,_,_,rfl⟩,⟨_,_,_,rfl⟩,_,_,_,rfl⟩:=hm.slices;rw [a4.slice] at d4;rw [a5.slice] at d5;rw [a6.slice] at d6;exact ⟨b,w0,w1,w2,w3,_,_,_,w7,ea,hb,d0,d1,d2,d3,d4,d5,d6,d7,a7.int hf,z7.trans hz,(hm.kept hs).head⟩
theorem Spl.slice {B:Nat} {W W':World} (h:Spl B W W') {p:Addr} {a:Option Addr} {n c:Nat} (hp:W.cell? p=some (.slice a n c)):W'.cell? p=some (.slice a n c):=by
 obtain ⟨⟨u,h1,h2⟩,_⟩:=h.cell _ _ hp;rw [h2.slice] at h1;exact h1
theorem SpPlcs.spot {B:Nat} {W:World} {a:Option Addr} {n m c:Nat} (h:SpPlcs B W (.slice a n c) m):n=m∧n≤9223372036854775807∧∀ j,j<n→∃ b,a=some ⟨b,0,none⟩∧∀ W',Spl B W W'→∃ u0 u1 u2 u3 ve vi vp f,W'.cell? ⟨b,j*8,none⟩=some u0∧W'.cell? ⟨b,j*8+1,none⟩=some u1∧W'.cell? ⟨b,j*8+2,none⟩=some u2∧W'.cell? ⟨b,j*8+3,none⟩=some u3∧W'.cell? ⟨b,j*8+4,none⟩=some ve∧W'.cell? ⟨b,j*8+5,none⟩=some vi∧W'.cell? ⟨b,j*8+6,none⟩=some vp∧W'.cell? ⟨b,j*8+7,none⟩=some f∧W'.frozen? ⟨b,j*8+7,none⟩=false∧SpMod B W' (.agg #[u0,u1,u2,u3,ve,vi,vp])∧∀ i,Spl B W' (W'.setCell ⟨b,j*8+7,none⟩ (.int .i64 i)):=by
 obtain ⟨hn,a',c',e,_⟩:=id h;injection e with e1 e2 e3;subst e1 e2;refine ⟨rfl,hn,fun j hj=>?_⟩;obtain ⟨_,a',c',e,h0⟩:=id h;injection e with e1 e2 e3;subst e1;obtain ⟨b,_,_,_,_,_,_,_,_,ea,_⟩:=h0 j hj;refine ⟨b,ea,fun W' hs=>?_⟩;obtain ⟨_,a',c',e,h⟩:=h.kept hs;injection e with e1 e2 e3;subst e1;obtain ⟨b',u0,u1,u2,u3,ve,vi,vp,f,ea',hb,k0,k1,k2,k3,k4,k5,k6,k7,hf,hz,hm⟩:=h j hj;rw [ea] at ea';injection ea' with ea';injection ea' with ea';subst ea';exact ⟨u0,u1,u2,u3,ve,vi,vp,f,k0,k1,k2,k3,k4,k5,k6,k7,hz,hm,fun i=>(Spl.refl B W').int k7 hf hb i⟩
def SpReg (B:Nat) (W:World) (v:Value):Prop:=∃ k0 k1 ve vl le n,v=.agg #[k0,k1,ve,vl]∧ZbV B W ve le 2 0 isStr∧SpPlcs B W vl n
theorem SpReg.kept {B B':Nat} {W W':World} {v:Value} (h:SpReg B W v) (hs:Spl B' W W'):SpReg B W' v:=by
 obtain ⟨k0,k1,ve,vl,le,n,e,h1,h2⟩:=h;exact ⟨k0,k1,ve,vl,le,n,e,h1.keptS hs,h2.kept hs⟩
theorem spExp {B base:Nat} {W:World} {v:Value} {l:List Exp} (h:W.ownsRow base 129 2 v l.length (l.flatMap expC)) (hB:B≤base):ZbV B W v l.length 2 0 isStr:=ZbV.of_own h hB (fun _=>rfl) (by omega) fun _ _=>⟨_,rfl,_,rfl⟩
theorem spImp {B base:Nat} {W:World} {v:Value} {l:List Imp} (h:W.ownsRow base 106 4 v l.length (l.flatMap impC)) (hB:B≤base):ZbV B W v l.length 4 1 isStr:=ZbV.of_own h hB (fun _=>rfl) (by omega) fun _ _=>⟨_,rfl,_,rfl⟩
theorem spPat {B base:Nat} {W:World} {v:Value} {l:List Pat} (h:W.ownsRow base 113 4 v l.length (l.flatMap patC)) (hB:B≤base):ZbV B W v l.length 4 0 isInt:=ZbV.of_own h hB (fun _=>rfl) (by omega) fun _ _=>⟨_,rfl,_,rfl⟩
theorem Zak.spMod {B base:Nat} {W:World} {y:PV} (h:Zak base W y) (hB:B≤base) (u0 u1 u2 u3:Value):SpMod B W (.agg #[u0,u1,u2,u3,y.ve,y.vi,y.vp]):=⟨_,_,_,_,_,_,_,_,_,_,rfl,spExp h.1 hB,spImp h.2.1 hB,spPat h.2.2 hB⟩
theorem Zau.spReg {B base:Nat} {W:World} {v:Value} {K:Ker} {l:List PV} (h:Zau base W v K l) (hB:B≤base):SpReg B W v:=by
 obtain ⟨ve,vl,rfl,h1,h2,h3⟩:=h;refine ⟨_,_,ve,vl,_,l.length,rfl,spExp h1 hB,?_⟩;have h4:=h2.2
 rcases h4 with ⟨rfl,hn⟩ | ⟨g,cap,cur,rfl,hg,hh,g1,g3,_⟩
 ·exact ⟨by omega,none,0,by rw [hn],fun j hj=>by omega⟩
 ·refine ⟨Nat.le_trans g1 (Nat.le_trans g3 (by decide)),_,cap,rfl,fun j hj=>?_⟩
  obtain ⟨x,hx⟩:∃ x,l[j]?=some x:=⟨_,List.getElem?_eq_getElem hj⟩;have fl:=fun i (hi:i<8)=>(h2.cellAt (j*8+i) (by omega)).trans (flat_at (C:=pvC) (sz:=8) (fun _=>rfl) l j x i hx hi);exact ⟨g,_,_,_,_,_,_,_,_,rfl,Nat.le_trans hB hg,fl 0 (by omega),fl 1 (by omega),fl 2 (by omega),fl 3 (by omega),fl 4 (by omega),fl 5 (by omega),fl 6 (by omega),fl 7 (by omega),⟨_,rfl⟩,h2.frozenAt _,(h3 x (List.mem_of_getElem? hx)).spMod hB _ _ _ _⟩
end Go.Proofs.YtlpnfbpgnfappaaGreat
