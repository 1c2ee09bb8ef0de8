/- Texts that are laid together. -/
import Derived.Test.YtlpnfbpgnfappaaGreatMrgC
import Derived.Test.YtlpnfbpgnfappaaGreatMrgI
import Derived.Shelf.RegionOpenPlain
import Derived.Lib.SliceRun
import Derived.Lib.Walk
import Derived.Test.YtlpnfbpgnfappaaGreatMrgF
import Derived.Test.YtlpnfbpgnfappaaGreatMrgE
import Derived.Test.YtlpnfbpgnfappaaGreatMrgG
import Derived.Deep.LoopGhost
set_option maxHeartbeats 256000000
set_option maxRecDepth 100000

namespace Go.Proofs.YtlpnfbpgnfappaaGreat
open Go.RowKit Go.PlainAid
def pairL:List Plc:=[⟨appM,1⟩,⟨libM,4⟩]
theorem fits_app:appM.fits:=by
 refine ⟨by decide,by decide,fun e he=>by simp [appM] at he,fun i hi=>?_⟩
 have:i=⟨⟨#[108,105,98]⟩,⟨#[102]⟩,1,1⟩∨i=⟨⟨#[107,101,114,110,101,108]⟩,⟨#[107]⟩,0,0⟩:=by simpa [appM] using hi
 rcases this with rfl | rfl <;> exact ⟨by decide,by decide⟩
theorem fits_lib:libM.fits:=by
 refine ⟨by decide,by decide,fun e he=>?_,fun i hi=>by simp [libM] at hi⟩
 have:e=⟨⟨#[102]⟩,4⟩:=by simpa [libM] using he
 subst this
 decide
def pvC (x:PV):List Value:=[.string x.mod.name,.int .i64 x.mod.major,.int .i64 x.mod.minor,.string x.mod.text,x.ve,x.vi,x.vp,.int .i64 x.first]
theorem pvC_at (x:PV) (i:Nat) (hi:i<8):(pvC x)[i]?=some (PV.cell x i):=by
 have:i=0∨i=1∨i=2∨i=3∨i=4∨i=5∨i=6∨i=7:=by omega
 rcases this with rfl | rfl | rfl | rfl | rfl | rfl | rfl | rfl <;> rfl
theorem mod_rows {n₀:Nat} {W:World} {N T:ByteArray} {a b:Int} {ve vi vp:Value} {M:Mod} (h:Zbf n₀ W (.agg #[.string N,.int .i64 a,.int .i64 b,.string T,ve,vi,vp]) M):Zal 2 Exp.cell n₀ W ve M.exps∧Zal 4 Imp.cell n₀ W vi M.imps∧Zal 4 Pat.cell n₀ W vp M.pats:=by
 obtain ⟨ve',vi',vp',e,h1,h2,h3⟩:=h;injection e with e;have e2:=congrArg Array.toList e;simp at e2;obtain ⟨_,_,_,_,rfl,rfl,rfl⟩:=e2;exact ⟨h1,h2,h3⟩
theorem pair_any (w:World):Calls Tryz.prog 59 #[] w fun e w'=>∃ v l,e=.returned v∧l.map PV.plc=pairL∧Zax w'.heap.size w' v l∧Below w.heap.size w w':=by
 go_enter Tryz.func59,Tryz.ntmps59
 go_wp2_with fail;refine (app_any _).mono ?_;rintro e w1 ⟨v1,rfl,hA,b1⟩;obtain ⟨ve,vi,vp,rfl,hE,hI,hP⟩:=hA;have hAE:=hE;have hAI:=hI;have hAP:=hP;obtain ⟨ae,ce,rfl,_,_⟩:=hE;obtain ⟨ai,ci,rfl,_,_⟩:=hI;obtain ⟨ap,cp,rfl,_,_⟩:=hP;dsimp only [appM];go_wp2_with fail;refine (lib_any _).mono ?_;rintro e w2 ⟨pe,ke,rfl,hL,b2⟩;obtain ⟨l1,l2,l3⟩:=mod_rows hL;have B2:=b1.trans (b2.mono b1.size);clear b1 hL;go_wp2;go_ret;refine ⟨_,[⟨appM,.slice ae 0 ce,.slice ai 2 ci,.slice ap 2 cp,1⟩,⟨libM,.slice pe 1 ke,.slice none 0 0,.slice none 0 0,4⟩],rfl,rfl,⟨?_,?_⟩,B2.alloc B2.size _⟩
 ·exact ZbQ (C:=pvC) (cells:=PV.cell) (sz:=8) (fun _=>rfl) pvC_at (Za.new w2 57 _) [⟨appM,.slice ae 0 ce,.slice ai 2 ci,.slice ap 2 cp,1⟩,⟨libM,.slice pe 1 ke,.slice none 0 0,.slice none 0 0,4⟩] (show 2≤255 by decide) 2 rfl
 ·intro x hx
  have:x=⟨appM,.slice ae 0 ce,.slice ai 2 ci,.slice ap 2 cp,1⟩∨x=⟨libM,.slice pe 1 ke,.slice none 0 0,.slice none 0 0,4⟩:=by simpa using hx
  have hb:∀ o,Below w2.heap.size w2 (w2.alloc o):=fun o=>(Below.refl _ _).alloc (Nat.le_refl _) o;have hbb:∀ o,Below w1.heap.size w1 (w2.alloc o):=fun o=>b2.trans ((hb o).mono b2.size)
  rcases this with rfl | rfl
  ·exact ⟨(hAE.below (hbb _)).more (hbb _).size,(hAI.below (hbb _)).more (hbb _).size,(hAP.below (hbb _)).more (hbb _).size⟩
  ·exact ⟨(l1.below (hb _)).more (hb _).size,(l2.below (hb _)).more (hb _).size,(l3.below (hb _)).more (hb _).size⟩
theorem Zbq {l:List PV} (h:l.map PV.plc=pairL):∀ x∈l,x.mod.fits:=by
 intro x hx
 have:x.plc∈pairL:=by rw [← h];exact List.mem_map_of_mem hx
 have h2:x.plc=⟨appM,1⟩∨x.plc=⟨libM,4⟩:=by simpa [pairL] using this
 rcases h2 with h2 | h2
 ·have e:x.mod=appM:=congrArg Plc.mod h2
  rw [e];exact fits_app
 ·have e:x.mod=libM:=congrArg Plc.mod h2
  rw [e];exact fits_lib
theorem pv_one {n₀:Nat} {W:World} {x:PV} (h:ZbH n₀ W x):∀ u∈pvC x,u.oneCell'=true:=by
 obtain ⟨⟨pe,ke,e4,_⟩,⟨pi,ki,e5,_⟩,⟨pp,kp,e6,_⟩⟩:=h;intro u hu;unfold pvC at hu;rw [e4,e5,e6] at hu;simp at hu
 rcases hu with rfl | rfl | rfl | rfl | rfl | rfl | rfl | rfl <;> rfl
theorem pvs_one {n₀:Nat} {W:World} {l:List PV} (h:∀ x∈l,ZbH n₀ W x):∀ u∈l.flatMap pvC,u.oneCell'=true:=by
 intro u hu;obtain ⟨x,hx,hux⟩:=List.mem_flatMap.1 hu;exact pv_one (h x hx) u hux
theorem infoPlc:(Tryz.prog.info? 57).map (fun i=>(i.zero,i.size,i.bytes))=some (some (.agg #[.string ⟨#[]⟩,.int .i64 0,.int .i64 0,.string ⟨#[]⟩,.slice none 0 0,.slice none 0 0,.slice none 0 0,.int .i64 0]),8,128):=by kernel_rfl
theorem infoPlc_parts:∃ i,Tryz.prog.info? 57=some i∧i.zero=some (.agg #[.string ⟨#[]⟩,.int .i64 0,.int .i64 0,.string ⟨#[]⟩,.slice none 0 0,.slice none 0 0,.slice none 0 0,.int .i64 0])∧i.size=8∧i.bytes=128:=by
 have h:=infoPlc
 cases hi:Tryz.prog.info? 57 with
 | none=>rw [hi] at h;cases h
 | some i=>
  rw [hi] at h;simp at h;exact ⟨i,rfl,h.1,h.2.1,h.2.2⟩
end Go.Proofs.YtlpnfbpgnfappaaGreat
namespace Go.Proofs.YtlpnfbpgnfappaaGreat
open Go.RowKit Go.PlainAid Go.Lib
theorem add_none (b off j:Nat):(⟨b,off,none⟩:Addr).add j=⟨b,off+j,none⟩:=by unfold Addr.add;split <;> simp_all
theorem infoExpC:(Tryz.prog.info? 129).map (fun i=>(i.zero,i.size,i.bytes))=some (some (.agg #[.string ⟨#[]⟩,.int .i64 0]),2,24):=by kernel_rfl
theorem infoExp_parts:∃ i,Tryz.prog.info? 129=some i∧i.zero=some (.agg #[.string ⟨#[]⟩,.int .i64 0])∧i.size=2∧i.bytes=24:=by
 have h:=infoExpC
 cases hi:Tryz.prog.info? 129 with
 | none=>rw [hi] at h;cases h
 | some i=>
  rw [hi] at h;simp at h;exact ⟨i,rfl,h.1,h.2.1,h.2.2⟩
theorem oneExp (l:List Exp):∀ u∈l.flatMap expC,u.oneCell'=true:=by
 intro u hu;obtain ⟨x,_,hx⟩:=List.mem_flatMap.1 hu;simp only [expC,List.mem_cons,List.not_mem_nil,or_false] at hx
 rcases hx with rfl | rfl <;> rfl
theorem cloneExp_any (l:List Exp) (v:Value) (w:World) (h:Zal 2 Exp.cell w.heap.size w v l) (hl:l.length≤255) :
  Calls Tryz.prog 125 #[v] w fun e w'=>(∃ r,e=.returned r∧w'.ownsRow w.heap.size 129 2 r l.length (l.flatMap expC))∧Below w.heap.size w w':=by
 obtain ⟨i0,hi0,hz0,hz1,hz2⟩:=infoExp_parts;obtain ⟨a,cap,rfl,_,h⟩:=h;have q0:∀ (w:World) (a:Option Addr) (n c n' c':Nat),(binOp .eql 22 (.slice a n c) (.slice none n' c')).run Tryz.prog w=.ok (.bool a.isNone) w:=fun w a n c n' c'=>Lib.run_eql_slice_nil w _ _ a n c n' c' Tryz.underlying22;have HN:Hid (∀ ad,a=some ad→∀ j u,(l.flatMap expC)[j]?=some u→w.cell? (ad.add j)=some u):=by
  intro ad ha j u hu
  rcases h with h | ⟨b,off,rfl,hbn,hcells⟩
  ·subst h;simp at hu
  ·obtain rfl:=Option.some.inj ha
   exact news_row (C:=expC) (cells:=Exp.cell) (sz:=2) (by decide) (fun _=>rfl) expC_at hcells j u hu
 have HL:Hid ((l.flatMap expC).length=l.length*2):=Zca (C:=expC) (sz:=2) (fun _=>rfl) l;have HO:Hid (∀ u∈l.flatMap expC,u.oneCell'=true):=(oneExp l);have HE:Hid (a=none→l=[]):=fun e=>by
  rcases h with h | ⟨b,off,h,_⟩
  ·exact h
  ·rw [e] at h;cases h
 clear h
 rcases a with _ | ad
 ·have:=HE.out rfl
  subst this;clear HN HL HO HE
  go_enter Tryz.func125,Tryz.ntmps125
  go_wp2;go_ret;exact ⟨⟨_,rfl,World.ownsRow_nil _ _ _ _⟩,Below.refl _ _⟩
 ·have HN2:Hid (∀ j u,(l.flatMap expC)[j]?=some u→w.cell? (ad.add j)=some u):=HN.out ad rfl
  clear HN HE;generalize l.flatMap expC=news at *
  go_enter Tryz.func125,Tryz.ntmps125
  go_wp2_with (at_builtin;refine wpList_append_own _ rfl _ _ 22 rfl w.heap.size 129 i0 (.agg #[.string ⟨#[]⟩,.int .i64 0]) 2 24 Tryz.underlying22 hi0 hz0 hz1 hz2 rfl (by decide) _ _ _ rfl (World.ownsRow_made w #[] 0 (Nat.le_refl _) (Nat.zero_le _) (by simp)) ad l.length cap news rfl ?qc1 ?qc2 ?qc3 ?qc4 ?qc5 ?qc6 ?_)
  case qc1=>exact HL.out
  case qc2=>
   intro j u hj;exact Lib.cell?_alloc_some _ (HN2.out j u hj)
  case qc3=>exact HO.out
  case qc4=>unfold maxLen;omega
  case qc5=>omega
  case qc6=>simp
  intro v' w1 hown hgrow hnil;go_wp2;go_ret;refine ⟨⟨v',rfl,by simpa using hown⟩,?_⟩;exact ((Below.refl _ w).alloc (Nat.le_refl _) _).grown hgrow (by simp) (by intro k hk;simp [Value.ownBlock] at hk;omega)
theorem infoImpC:(Tryz.prog.info? 106).map (fun i=>(i.zero,i.size,i.bytes))=some (some (.agg #[.string ⟨#[]⟩,.string ⟨#[]⟩,.int .i64 0,.int .i64 0]),4,48):=by kernel_rfl
theorem infoImp_parts:∃ i,Tryz.prog.info? 106=some i∧i.zero=some (.agg #[.string ⟨#[]⟩,.string ⟨#[]⟩,.int .i64 0,.int .i64 0])∧i.size=4∧i.bytes=48:=by
 have h:=infoImpC
 cases hi:Tryz.prog.info? 106 with
 | none=>rw [hi] at h;cases h
 | some i=>
  rw [hi] at h;simp at h;exact ⟨i,rfl,h.1,h.2.1,h.2.2⟩
theorem oneImp (l:List Imp):∀ u∈l.flatMap impC,u.oneCell'=true:=by
 intro u hu;obtain ⟨x,_,hx⟩:=List.mem_flatMap.1 hu;simp only [impC,List.mem_cons,List.not_mem_nil,or_false] at hx
 rcases hx with rfl | rfl | rfl | rfl <;> rfl
theorem cloneImp_any (l:List Imp) (v:Value) (w:World) (h:Zal 4 Imp.cell w.heap.size w v l) (hl:l.length≤255) :
  Calls Tryz.prog 126 #[v] w fun e w'=>(∃ r,e=.returned r∧w'.ownsRow w.heap.size 106 4 r l.length (l.flatMap impC))∧Below w.heap.size w w':=by
 obtain ⟨i0,hi0,hz0,hz1,hz2⟩:=infoImp_parts;obtain ⟨a,cap,rfl,_,h⟩:=h;have q0:∀ (w:World) (a:Option Addr) (n c n' c':Nat),(binOp .eql 28 (.slice a n c) (.slice none n' c')).run Tryz.prog w=.ok (.bool a.isNone) w:=fun w a n c n' c'=>Lib.run_eql_slice_nil w _ _ a n c n' c' Tryz.underlying28;have HN:Hid (∀ ad,a=some ad→∀ j u,(l.flatMap impC)[j]?=some u→w.cell? (ad.add j)=some u):=by
  intro ad ha j u hu
  rcases h with h | ⟨b,off,rfl,hbn,hcells⟩
  ·subst h;simp at hu
  ·obtain rfl:=Option.some.inj ha
   exact news_row (C:=impC) (cells:=Imp.cell) (sz:=4) (by decide) (fun _=>rfl) impC_at hcells j u hu
 have HL:Hid ((l.flatMap impC).length=l.length*4):=Zca (C:=impC) (sz:=4) (fun _=>rfl) l;have HO:Hid (∀ u∈l.flatMap impC,u.oneCell'=true):=(oneImp l);have HE:Hid (a=none→l=[]):=fun e=>by
  rcases h with h | ⟨b,off,h,_⟩
  ·exact h
  ·rw [e] at h;cases h
 clear h
 rcases a with _ | ad
 ·have:=HE.out rfl
  subst this;clear HN HL HO HE
  go_enter Tryz.func126,Tryz.ntmps126
  go_wp2;go_ret;exact ⟨⟨_,rfl,World.ownsRow_nil _ _ _ _⟩,Below.refl _ _⟩
 ·have HN2:Hid (∀ j u,(l.flatMap impC)[j]?=some u→w.cell? (ad.add j)=some u):=HN.out ad rfl
  clear HN HE;generalize l.flatMap impC=news at *
  go_enter Tryz.func126,Tryz.ntmps126
  go_wp2_with (at_builtin;refine wpList_append_own _ rfl _ _ 28 rfl w.heap.size 106 i0 (.agg #[.string ⟨#[]⟩,.string ⟨#[]⟩,.int .i64 0,.int .i64 0]) 4 48 Tryz.underlying28 hi0 hz0 hz1 hz2 rfl (by decide) _ _ _ rfl (World.ownsRow_made w #[] 0 (Nat.le_refl _) (Nat.zero_le _) (by simp)) ad l.length cap news rfl ?qc1 ?qc2 ?qc3 ?qc4 ?qc5 ?qc6 ?_)
  case qc1=>exact HL.out
  case qc2=>
   intro j u hj;exact Lib.cell?_alloc_some _ (HN2.out j u hj)
  case qc3=>exact HO.out
  case qc4=>unfold maxLen;omega
  case qc5=>omega
  case qc6=>simp
  intro v' w1 hown hgrow hnil;go_wp2;go_ret;refine ⟨⟨v',rfl,by simpa using hown⟩,?_⟩;exact ((Below.refl _ w).alloc (Nat.le_refl _) _).grown hgrow (by simp) (by intro k hk;simp [Value.ownBlock] at hk;omega)
theorem infoPatC:(Tryz.prog.info? 113).map (fun i=>(i.zero,i.size,i.bytes))=some (some (.agg #[.int .i64 0,.int .i64 0,.int .i64 0,.int .i64 0]),4,32):=by kernel_rfl
theorem infoPat_parts:∃ i,Tryz.prog.info? 113=some i∧i.zero=some (.agg #[.int .i64 0,.int .i64 0,.int .i64 0,.int .i64 0])∧i.size=4∧i.bytes=32:=by
 have h:=infoPatC
 cases hi:Tryz.prog.info? 113 with
 | none=>rw [hi] at h;cases h
 | some i=>
  rw [hi] at h;simp at h;exact ⟨i,rfl,h.1,h.2.1,h.2.2⟩
theorem onePat (l:List Pat):∀ u∈l.flatMap patC,u.oneCell'=true:=by
 intro u hu;obtain ⟨x,_,hx⟩:=List.mem_flatMap.1 hu;simp only [patC,List.mem_cons,List.not_mem_nil,or_false] at hx
 rcases hx with rfl | rfl | rfl | rfl <;> rfl
theorem clonePat_any (l:List Pat) (v:Value) (w:World) (h:Zal 4 Pat.cell w.heap.size w v l) (hl:l.length≤255) :
  Calls Tryz.prog 127 #[v] w fun e w'=>(∃ r,e=.returned r∧w'.ownsRow w.heap.size 113 4 r l.length (l.flatMap patC))∧Below w.heap.size w w':=by
 obtain ⟨i0,hi0,hz0,hz1,hz2⟩:=infoPat_parts;obtain ⟨a,cap,rfl,_,h⟩:=h;have q0:∀ (w:World) (a:Option Addr) (n c n' c':Nat),(binOp .eql 29 (.slice a n c) (.slice none n' c')).run Tryz.prog w=.ok (.bool a.isNone) w:=fun w a n c n' c'=>Lib.run_eql_slice_nil w _ _ a n c n' c' Tryz.underlying29;have HN:Hid (∀ ad,a=some ad→∀ j u,(l.flatMap patC)[j]?=some u→w.cell? (ad.add j)=some u):=by
  intro ad ha j u hu
  rcases h with h | ⟨b,off,rfl,hbn,hcells⟩
  ·subst h;simp at hu
  ·obtain rfl:=Option.some.inj ha
   exact news_row (C:=patC) (cells:=Pat.cell) (sz:=4) (by decide) (fun _=>rfl) patC_at hcells j u hu
 have HL:Hid ((l.flatMap patC).length=l.length*4):=Zca (C:=patC) (sz:=4) (fun _=>rfl) l;have HO:Hid (∀ u∈l.flatMap patC,u.oneCell'=true):=(onePat l);have HE:Hid (a=none→l=[]):=fun e=>by
  rcases h with h | ⟨b,off,h,_⟩
  ·exact h
  ·rw [e] at h;cases h
 clear h
 rcases a with _ | ad
 ·have:=HE.out rfl
  subst this;clear HN HL HO HE
  go_enter Tryz.func127,Tryz.ntmps127
  go_wp2;go_ret;exact ⟨⟨_,rfl,World.ownsRow_nil _ _ _ _⟩,Below.refl _ _⟩
 ·have HN2:Hid (∀ j u,(l.flatMap patC)[j]?=some u→w.cell? (ad.add j)=some u):=HN.out ad rfl
  clear HN HE;generalize l.flatMap patC=news at *
  go_enter Tryz.func127,Tryz.ntmps127
  go_wp2_with (at_builtin;refine wpList_append_own _ rfl _ _ 29 rfl w.heap.size 113 i0 (.agg #[.int .i64 0,.int .i64 0,.int .i64 0,.int .i64 0]) 4 32 Tryz.underlying29 hi0 hz0 hz1 hz2 rfl (by decide) _ _ _ rfl (World.ownsRow_made w #[] 0 (Nat.le_refl _) (Nat.zero_le _) (by simp)) ad l.length cap news rfl ?qc1 ?qc2 ?qc3 ?qc4 ?qc5 ?qc6 ?_)
  case qc1=>exact HL.out
  case qc2=>
   intro j u hj;exact Lib.cell?_alloc_some _ (HN2.out j u hj)
  case qc3=>exact HO.out
  case qc4=>unfold maxLen;omega
  case qc5=>omega
  case qc6=>simp
  intro v' w1 hown hgrow hnil;go_wp2;go_ret;refine ⟨⟨v',rfl,by simpa using hown⟩,?_⟩;exact ((Below.refl _ w).alloc (Nat.le_refl _) _).grown hgrow (by simp) (by intro k hk;simp [Value.ownBlock] at hk;omega)
theorem clonePlc_any (l:List PV) (v:Value) (w:World) (h:Zal 8 PV.cell w.heap.size w v l) (hl:l.length≤255) (hone:∀ u∈l.flatMap pvC,u.oneCell'=true) :
  Calls Tryz.prog 150 #[v] w fun e w'=>(∃ r,e=.returned r∧w'.ownsRow w.heap.size 57 8 r l.length (l.flatMap pvC))∧Below w.heap.size w w':=by
 obtain ⟨i0,hi0,hz0,hz1,hz2⟩:=infoPlc_parts;obtain ⟨a,cap,rfl,_,h⟩:=h;have q0:∀ (w:World) (a:Option Addr) (n c n' c':Nat),(binOp .eql 25 (.slice a n c) (.slice none n' c')).run Tryz.prog w=.ok (.bool a.isNone) w:=fun w a n c n' c'=>Lib.run_eql_slice_nil w _ _ a n c n' c' Tryz.underlying25;have HN:Hid (∀ ad,a=some ad→∀ j u,(l.flatMap pvC)[j]?=some u→w.cell? (ad.add j)=some u):=by
  intro ad ha j u hu
  rcases h with h | ⟨b,off,rfl,hbn,hcells⟩
  ·subst h;simp at hu
  ·obtain rfl:=Option.some.inj ha
   exact news_row (C:=pvC) (cells:=PV.cell) (sz:=8) (by decide) (fun _=>rfl) pvC_at hcells j u hu
 have HL:Hid ((l.flatMap pvC).length=l.length*8):=Zca (C:=pvC) (sz:=8) (fun _=>rfl) l;have HO:Hid (∀ u∈l.flatMap pvC,u.oneCell'=true):=hone;have HE:Hid (a=none→l=[]):=fun e=>by
  rcases h with h | ⟨b,off,h,_⟩
  ·exact h
  ·rw [e] at h;cases h
 clear h
 rcases a with _ | ad
 ·have:=HE.out rfl
  subst this;clear HN HL HO HE
  go_enter Tryz.func150,Tryz.ntmps150
  go_wp2;go_ret;exact ⟨⟨_,rfl,World.ownsRow_nil _ _ _ _⟩,Below.refl _ _⟩
 ·have HN2:Hid (∀ j u,(l.flatMap pvC)[j]?=some u→w.cell? (ad.add j)=some u):=HN.out ad rfl
  clear HN HE;generalize l.flatMap pvC=news at *
  go_enter Tryz.func150,Tryz.ntmps150
  go_wp2_with (at_builtin;refine wpList_append_own _ rfl _ _ 25 rfl w.heap.size 57 i0 _ 8 128 Tryz.underlying25 hi0 hz0 hz1 hz2 rfl (by decide) _ _ _ rfl (World.ownsRow_made w #[] 0 (Nat.le_refl _) (Nat.zero_le _) (by simp)) ad l.length cap news rfl ?qc1 ?qc2 ?qc3 ?qc4 ?qc5 ?qc6 ?_)
  case qc1=>exact HL.out
  case qc2=>
   intro j u hj;exact Lib.cell?_alloc_some _ (HN2.out j u hj)
  case qc3=>exact HO.out
  case qc4=>unfold maxLen;omega
  case qc5=>omega
  case qc6=>simp
  intro v' w1 hown hgrow hnil;go_wp2;go_ret;refine ⟨⟨v',rfl,by simpa using hown⟩,?_⟩;exact ((Below.refl _ w).alloc (Nat.le_refl _) _).grown hgrow (by simp) (by intro k hk;simp [Value.ownBlock] at hk;omega)
theorem row_less2 {W:World} {base base':Nat} {e:TypeId} {size:Nat} {v:Value} {n:Nat} {xs:List Value} (h:W.ownsRow base e size v n xs) (hb:base'≤base):W.ownsRow base' e size v n xs:=
 ⟨h.1,h.2.imp id (fun ⟨g,cap,cur,h1,h2,h3⟩=>⟨g,cap,cur,h1,Nat.le_trans hb h2,h3⟩)⟩
def Zak (base:Nat) (W:World) (y:PV):Prop:=
 W.ownsRow base 129 2 y.ve y.mod.exps.length (y.mod.exps.flatMap expC)∧W.ownsRow base 106 4 y.vi y.mod.imps.length (y.mod.imps.flatMap impC)∧W.ownsRow base 113 4 y.vp y.mod.pats.length (y.mod.pats.flatMap patC)
theorem ZbD {W W':World} {base:Nat} {e:TypeId} {size:Nat} {v:Value} {n:Nat} {xs:List Value} (h:W.ownsRow base e size v n xs) {row:Option Nat} (hg:W.grownBy W' row) (hr:∀ k,row=some k→k<base):W'.ownsRow base e size v n xs:=
 h.kept hg (by
  rcases row with _ | k
  ·cases hv:v.ownBlock with
   | none=>exact .inl rfl
   | some j=>exact .inr (by simp)
  ·refine .inr ?_
   intro e
   have:=ZaP h k e
   have:=hr k rfl
   omega)
theorem Zak.grown {base:Nat} {W W':World} {y:PV} (h:Zak base W y) {row:Option Nat} (hg:W.grownBy W' row) (hr:∀ k,row=some k→k<base):Zak base W' y:=⟨ZbD h.1 hg hr,ZbD h.2.1 hg hr,ZbD h.2.2 hg hr⟩
theorem Zak.below {base:Nat} {W W':World} {y:PV} (h:Zak base W y) (hb:Below W.heap.size W W'):Zak base W' y:=⟨own_below h.1 hb,own_below h.2.1 hb,own_below h.2.2 hb⟩
theorem Zak.plcAt {base:Nat} {W:World} {y:PV} (h:Zak base W y) (l1:y.mod.exps.length≤255) (l2:y.mod.imps.length≤255) (l3:y.mod.pats.length≤255):ZbH W.heap.size W y:=
 ⟨ZbX (C:=expC) (cells:=Exp.cell) (sz:=2) (fun _=>rfl) expC_at h.1 (by omega),ZbX (C:=impC) (cells:=Imp.cell) (sz:=4) (fun _=>rfl) impC_at h.2.1 (by omega),ZbX (C:=patC) (cells:=Pat.cell) (sz:=4) (fun _=>rfl) patC_at h.2.2 (by omega)⟩
theorem sets8 {W:World} {B:Nat} {t:TypeId} {a0 a1 a2 a3 a4 a5 a6 a7:Value} (h:Za W B t #[a0,a1,a2,a3,a4,a5,a6,a7]) (v0 v1 v2 v3 v4 v5 v6 v7:Value) :
  Za ((((((((W.setCell ⟨B,0,none⟩ v0).setCell ⟨B,1,none⟩ v1).setCell ⟨B,2,none⟩ v2).setCell ⟨B,3,none⟩ v3).setCell ⟨B,4,none⟩ v4).setCell ⟨B,5,none⟩ v5).setCell ⟨B,6,none⟩ v6).setCell ⟨B,7,none⟩ v7) B t #[v0,v1,v2,v3,v4,v5,v6,v7]:=by
 have h7:=Za.set 7 v7 (Za.set 6 v6 (Za.set 5 v5 (Za.set 4 v4 (Za.set 3 v3 (Za.set 2 v2 (Za.set 1 v1 (Za.set 0 v0 h)))))));simp only [List.setIfInBounds_toArray,List.set_cons_zero,List.set_cons_succ] at h7;exact h7
theorem sets8_grown (W:World) (B:Nat) (v0 v1 v2 v3 v4 v5 v6 v7:Value) :
  W.grownBy ((((((((W.setCell ⟨B,0,none⟩ v0).setCell ⟨B,1,none⟩ v1).setCell ⟨B,2,none⟩ v2).setCell ⟨B,3,none⟩ v3).setCell ⟨B,4,none⟩ v4).setCell ⟨B,5,none⟩ v5).setCell ⟨B,6,none⟩ v6).setCell ⟨B,7,none⟩ v7) (some B):=
 ((((((((Zai W B 0 v0).trans (Zai _ B 1 v1)).trans (Zai _ B 2 v2)).trans (Zai _ B 3 v3)).trans (Zai _ B 4 v4)).trans (Zai _ B 5 v5)).trans (Zai _ B 6 v6)).trans (Zai _ B 7 v7))
theorem copyPlc_any (x:PV) (w:World) (hx:ZbH w.heap.size w x) (l1:x.mod.exps.length≤255) (l2:x.mod.imps.length≤255) (l3:x.mod.pats.length≤255) :
  Calls Tryz.prog 81 #[x.val] w fun e w'=>(∃ y:PV,e=.returned y.val∧y.plc=x.plc∧Zak w.heap.size w' y)∧Below w.heap.size w w':=by
 obtain ⟨hE,hI,hP⟩:=hx;have HE:Hid (∀ W,Below w.heap.size w W→Calls Tryz.prog 125 #[x.ve] W fun e w'=>(∃ r,e=.returned r∧w'.ownsRow W.heap.size 129 2 r x.mod.exps.length (x.mod.exps.flatMap expC))∧Below W.heap.size W w'):=fun W hb=>cloneExp_any _ _ W ((hE.below hb).more hb.size) l1;have HI:Hid (∀ W,Below w.heap.size w W→Calls Tryz.prog 126 #[x.vi] W fun e w'=>(∃ r,e=.returned r∧w'.ownsRow W.heap.size 106 4 r x.mod.imps.length (x.mod.imps.flatMap impC))∧Below W.heap.size W w'):=fun W hb=>cloneImp_any _ _ W ((hI.below hb).more hb.size) l2;have HP:Hid (∀ W,Below w.heap.size w W→Calls Tryz.prog 127 #[x.vp] W fun e w'=>(∃ r,e=.returned r∧w'.ownsRow W.heap.size 113 4 r x.mod.pats.length (x.mod.pats.flatMap patC))∧Below W.heap.size W w'):=fun W hb=>clonePat_any _ _ W ((hP.below hb).more hb.size) l3;obtain ⟨pe,ke,e4,_⟩:=hE;obtain ⟨pi,ki,e5,_⟩:=hI;obtain ⟨pp,kp,e6,_⟩:=hP;have HY:Hid (∀ (W:World) r1 r2 r3,W.ownsRow w.heap.size 129 2 r1 x.mod.exps.length (x.mod.exps.flatMap expC)→W.ownsRow w.heap.size 106 4 r2 x.mod.imps.length (x.mod.imps.flatMap impC)→W.ownsRow w.heap.size 113 4 r3 x.mod.pats.length (x.mod.pats.flatMap patC)→∃ y:PV,(Ending.returned (.agg #[.string x.mod.name,.int .i64 x.mod.major,.int .i64 x.mod.minor,.string x.mod.text,r1,r2,r3,.int .i64 x.first]))=.returned y.val∧y.plc=x.plc∧Zak w.heap.size W y):=fun W r1 r2 r3 h1 h2 h3=>⟨⟨x.mod,r1,r2,r3,x.first⟩,rfl,rfl,h1,h2,h3⟩;obtain ⟨⟨N,ma,mi,T,es,is,ps⟩,ve,vi,vp,fi⟩:=x;dsimp only [PV.val] at *;subst e4 e5 e6;generalize es.flatMap expC=xe at *;generalize is.flatMap impC=xi at *;generalize ps.flatMap patC=xp at *;generalize es.length=le at *;generalize is.length=li at *;generalize ps.length=lp at *;have B1:Below w.heap.size w ((w.alloc (.cells #[.string N,.int .i64 ma,.int .i64 mi,.string T,.slice pe le ke,.slice pi li ki,.slice pp lp kp,.int .i64 fi] 57)).alloc (.cells #[.string ⟨#[]⟩,.int .i64 0,.int .i64 0,.string ⟨#[]⟩,.slice none 0 0,.slice none 0 0,.slice none 0 0,.int .i64 0] 57)):=((Below.refl _ _).alloc (Nat.le_refl _) _).alloc (by simp) _;have C1:Za ((w.alloc (.cells #[.string N,.int .i64 ma,.int .i64 mi,.string T,.slice pe le ke,.slice pi li ki,.slice pp lp kp,.int .i64 fi] 57)).alloc (.cells #[.string ⟨#[]⟩,.int .i64 0,.int .i64 0,.string ⟨#[]⟩,.slice none 0 0,.slice none 0 0,.slice none 0 0,.int .i64 0] 57)) w.heap.size 57 #[.string N,.int .i64 ma,.int .i64 mi,.string T,.slice pe le ke,.slice pi li ki,.slice pp lp kp,.int .i64 fi]:=(Za.new w 57 #[.string N,.int .i64 ma,.int .i64 mi,.string T,.slice pe le ke,.slice pi li ki,.slice pp lp kp,.int .i64 fi]).kept (World.grownBy_alloc _ _ none) (by simp);have R1:Za ((w.alloc (.cells #[.string N,.int .i64 ma,.int .i64 mi,.string T,.slice pe le ke,.slice pi li ki,.slice pp lp kp,.int .i64 fi] 57)).alloc (.cells #[.string ⟨#[]⟩,.int .i64 0,.int .i64 0,.string ⟨#[]⟩,.slice none 0 0,.slice none 0 0,.slice none 0 0,.int .i64 0] 57)) (w.heap.size+1) 57 #[.string ⟨#[]⟩,.int .i64 0,.int .i64 0,.string ⟨#[]⟩,.slice none 0 0,.slice none 0 0,.slice none 0 0,.int .i64 0]:=by
  have:=Za.new (w.alloc (.cells #[.string N,.int .i64 ma,.int .i64 mi,.string T,.slice pe le ke,.slice pi li ki,.slice pp lp kp,.int .i64 fi] 57)) 57 #[.string ⟨#[]⟩,.int .i64 0,.int .i64 0,.string ⟨#[]⟩,.slice none 0 0,.slice none 0 0,.slice none 0 0,.int .i64 0]
  rw [World.size_alloc] at this;exact this
 go_enter Tryz.func81,Tryz.ntmps81
 go_wp2_with fail;refine (HE.out _ B1).mono ?_;generalize ((w.alloc (.cells #[.string N,.int .i64 ma,.int .i64 mi,.string T,.slice pe le ke,.slice pi li ki,.slice pp lp kp,.int .i64 fi] 57)).alloc (.cells #[.string ⟨#[]⟩,.int .i64 0,.int .i64 0,.string ⟨#[]⟩,.slice none 0 0,.slice none 0 0,.slice none 0 0,.int .i64 0] 57))=u1 at B1 C1 R1;clear HE;rintro e w2 ⟨⟨r1,rfl,o1⟩,b1⟩;obtain ⟨a1,c1,rfl⟩:=Zae o1;have z1:w.heap.size<u1.heap.size:=(Za.lt C1);have y1:w.heap.size+1<u1.heap.size:=(Za.lt R1);replace C1:=Za.below C1 b1 (Za.lt C1);replace R1:=Za.below R1 b1 (Za.lt R1);replace B1:=B1.trans (b1.mono B1.size);have C1':Za (w2.setCell ⟨w.heap.size,4,none⟩ (.slice a1 le c1)) w.heap.size 57 #[.string N,.int .i64 ma,.int .i64 mi,.string T,.slice a1 le c1,.slice pi li ki,.slice pp lp kp,.int .i64 fi]:=Za.set 4 (.slice a1 le c1) C1;have g1:=Zai w2 w.heap.size 4 (.slice a1 le c1);have R1':=Za.kept R1 g1 (by simp);have B1':=B1.grown g1 B1.size (fun k e=>by obtain rfl:=Option.some.inj e;exact Nat.le_refl _);have o1':=ZbD o1 g1 (fun k e=>by obtain rfl:=Option.some.inj e;omega);have q4:=Za.cell C1 4;have f4:=Za.frozen C1 4;have q5:=Za.cell C1 5;have hl1:=(Za.lt C1);have hm1:=(Za.lt R1);simp at q4 q5;have HC1:Hid _:=C1';have HR1:Hid _:=R1';have HB1:Hid _:=B1';have Ho1:Hid _:=o1';clear C1 R1 B1 C1' R1' B1' g1 b1 o1 o1';go_wp2_with fail;refine (HI.out _ HB1.out).mono ?_;have C1:=HC1.out;clear HC1;have R1:=HR1.out;clear HR1;have B1:=HB1.out;clear HB1;have o1:=Ho1.out;clear Ho1;clear q4 q5 f4 hl1 hm1;generalize w2.setCell ⟨w.heap.size,4,none⟩ (.slice a1 le c1)=u2 at C1 R1 B1 o1;clear HI;rintro e w3 ⟨⟨r2,rfl,o2⟩,b2⟩;obtain ⟨a2,c2,rfl⟩:=Zae o2;have z2:w.heap.size<u2.heap.size:=(Za.lt C1);have y2:w.heap.size+1<u2.heap.size:=(Za.lt R1);replace C1:=Za.below C1 b2 (Za.lt C1);replace R1:=Za.below R1 b2 (Za.lt R1);replace B1:=B1.trans (b2.mono B1.size);replace o1:=own_below o1 b2;have C1':Za (w3.setCell ⟨w.heap.size,5,none⟩ (.slice a2 li c2)) w.heap.size 57 #[.string N,.int .i64 ma,.int .i64 mi,.string T,.slice a1 le c1,.slice a2 li c2,.slice pp lp kp,.int .i64 fi]:=Za.set 5 (.slice a2 li c2) C1;have g2:=Zai w3 w.heap.size 5 (.slice a2 li c2);have R1':=Za.kept R1 g2 (by simp);have B1':=B1.grown g2 B1.size (fun k e=>by obtain rfl:=Option.some.inj e;exact Nat.le_refl _);have o1':=ZbD o1 g2 (fun k e=>by obtain rfl:=Option.some.inj e;omega);have o2':=ZbD o2 g2 (fun k e=>by obtain rfl:=Option.some.inj e;omega);have q5:=Za.cell C1 5;have f5:=Za.frozen C1 5;have q6:=Za.cell C1 6;have hl2:=(Za.lt C1);have hm2:=(Za.lt R1);simp at q5 q6;have HC1:Hid _:=C1';have HR1:Hid _:=R1';have HB1:Hid _:=B1';have Ho1:Hid _:=o1';have Ho2:Hid _:=o2';clear C1 R1 B1 C1' R1' B1' g2 b2 o1 o1' o2 o2';go_wp2_with fail;refine (HP.out _ HB1.out).mono ?_;have C1:=HC1.out;clear HC1;have R1:=HR1.out;clear HR1;have B1:=HB1.out;clear HB1;have o1:=Ho1.out;clear Ho1;have o2:=Ho2.out;clear Ho2;clear q5 q6 f5 hl2 hm2;generalize w3.setCell ⟨w.heap.size,5,none⟩ (.slice a2 li c2)=u3 at C1 R1 B1 o1 o2;clear HP;rintro e w4 ⟨⟨r3,rfl,o3⟩,b3⟩;obtain ⟨a3,c3,rfl⟩:=Zae o3;have z3:w.heap.size<u3.heap.size:=(Za.lt C1);have y3:w.heap.size+1<u3.heap.size:=(Za.lt R1);replace C1:=Za.below C1 b3 (Za.lt C1);replace R1:=Za.below R1 b3 (Za.lt R1);replace B1:=B1.trans (b3.mono B1.size);replace o1:=own_below o1 b3;replace o2:=own_below o2 b3;have C1':Za (w4.setCell ⟨w.heap.size,6,none⟩ (.slice a3 lp c3)) w.heap.size 57 #[.string N,.int .i64 ma,.int .i64 mi,.string T,.slice a1 le c1,.slice a2 li c2,.slice a3 lp c3,.int .i64 fi]:=Za.set 6 (.slice a3 lp c3) C1;have g3:=Zai w4 w.heap.size 6 (.slice a3 lp c3);have R1':=Za.kept R1 g3 (by simp);have B1':=B1.grown g3 B1.size (fun k e=>by obtain rfl:=Option.some.inj e;exact Nat.le_refl _);have o1':=ZbD o1 g3 (fun k e=>by obtain rfl:=Option.some.inj e;omega);have o2':=ZbD o2 g3 (fun k e=>by obtain rfl:=Option.some.inj e;omega);have o3':=ZbD o3 g3 (fun k e=>by obtain rfl:=Option.some.inj e;omega);have q6:=Za.cell C1 6;have f6:=Za.frozen C1 6;have q0:=Za.cell C1 0;have r0:=Za.cell R1 0;have s0:=Za.frozen R1 0;have q1:=Za.cell C1 1;have r1:=Za.cell R1 1;have s1:=Za.frozen R1 1;have q2:=Za.cell C1 2;have r2:=Za.cell R1 2;have s2:=Za.frozen R1 2;have q3:=Za.cell C1 3;have r3:=Za.cell R1 3;have s3:=Za.frozen R1 3;have q4:=Za.cell C1 4;have r4:=Za.cell R1 4;have s4:=Za.frozen R1 4;have q5:=Za.cell C1 5;have r5:=Za.cell R1 5;have s5:=Za.frozen R1 5;have r6:=Za.cell R1 6;have s6:=Za.frozen R1 6;have q7:=Za.cell C1 7;have r7:=Za.cell R1 7;have s7:=Za.frozen R1 7;have hl3:=(Za.lt C1);have hm3:=(Za.lt R1);simp at q0 q1 q2 q3 q4 q5 q6 q7 r0 r1 r2 r3 r4 r5 r6 r7;have HC1:Hid _:=C1';have HR1:Hid _:=R1';have HB1:Hid _:=B1';have Ho1:Hid _:=o1';have Ho2:Hid _:=o2';have Ho3:Hid _:=o3';clear C1 R1 B1 C1' R1' B1' g3 b3 o1 o1' o2 o2' o3 o3';go_wp2;have C1:=HC1.out;have R1:=HR1.out;have B1:=HB1.out;have o1:=Ho1.out;have o2:=Ho2.out;have o3:=Ho3.out;clear HC1 HR1 HB1 Ho1 Ho2 Ho3;have hF:=sets8 (W:=w4.setCell ⟨w.heap.size,6,none⟩ (.slice a3 lp c3)) (B:=w.heap.size+1) (t:=57) R1 (.string N) (.int .i64 ma) (.int .i64 mi) (.string T) (.slice a1 le c1) (.slice a2 li c2) (.slice a3 lp c3) (.int .i64 fi);have hG:=sets8_grown (w4.setCell ⟨w.heap.size,6,none⟩ (.slice a3 lp c3)) (w.heap.size+1) (.string N) (.int .i64 ma) (.int .i64 mi) (.string T) (.slice a1 le c1) (.slice a2 li c2) (.slice a3 lp c3) (.int .i64 fi)
 (try simp only [Exit.inBlock,Exit.then])
 refine bodyPost_ret (results_cell_row rfl _ _ _ _ _ _ _ rfl hF Tryz.underlying57 rfl (by kernel_rfl)) rfl ?_;refine ⟨HY.out _ _ _ _ (row_less2 (ZbD o1 hG (fun k e=>by obtain rfl:=Option.some.inj e;omega)) (by omega)) (row_less2 (ZbD o2 hG (fun k e=>by obtain rfl:=Option.some.inj e;omega)) (by omega)) (row_less2 (ZbD o3 hG (fun k e=>by obtain rfl:=Option.some.inj e;omega)) (by omega)),B1.grown hG B1.size (fun k e=>by obtain rfl:=Option.some.inj e;omega)⟩
def zeroP:Plc:=⟨⟨⟨#[]⟩,0,0,⟨#[]⟩,[],[],[]⟩,0⟩
def zeroPV:PV:=⟨⟨⟨#[]⟩,0,0,⟨#[]⟩,[],[],[]⟩,.slice none 0 0,.slice none 0 0,.slice none 0 0,0⟩
theorem zeroPV_owns (n:Nat) (W:World):Zak n W zeroPV:=⟨World.ownsRow_nil _ _ _ _,World.ownsRow_nil _ _ _ _,World.ownsRow_nil _ _ _ _⟩
def rgFind (K:Ker) (L:List Plc) (name:ByteArray):Plc × Int:=
 if Zaq K L≠0 then (zeroP,Zaq K L) else match L.find? fun p=>p.mod.name == name with
 | none=>(zeroP,5)
 | some p=>(p,0)
theorem rgFind_cases (K:Ker) (l:List PV) (name:ByteArray) :
  (Zaq K (l.map PV.plc)≠0∧rgFind K (l.map PV.plc) name=(zeroP,Zaq K (l.map PV.plc)))∨
  (Zaq K (l.map PV.plc)=0∧Zag (fun x:PV=>x.mod.name == name) 0 l = -1∧rgFind K (l.map PV.plc) name=(zeroP,5))∨
  (Zaq K (l.map PV.plc)=0∧∃ (j:Nat) (x:PV),l[j]?=some x∧Zag (fun x:PV=>x.mod.name == name) 0 l=(j:Int)∧rgFind K (l.map PV.plc) name=(x.plc,0)):=by
 by_cases h:Zaq K (l.map PV.plc)=0
 ·rcases ix_find (fun x:PV=>x.mod.name == name) l 0 with ⟨h1,h2⟩ | ⟨j,x,h1,h2,h3⟩
  ·refine .inr (.inl ⟨h,h2,?_⟩)
   unfold rgFind;rw [if_neg (by omega),find_plc,h1]
   rfl
  ·refine .inr (.inr ⟨h,j,x,h2,by simpa using h3,?_⟩)
   unfold rgFind;rw [if_neg (by omega),find_plc,h1]
   rfl
 ·refine .inl ⟨h,?_⟩
  unfold rgFind;rw [if_pos h]
theorem rgFind1_any (B:Nat) (name:ByteArray) (x:PV) (w:World) (hlt:B<w.heap.size) (hB:w.cell? ⟨B,0,none⟩=some (.string name)) (hat:ZbH w.heap.size w x) :
  Calls Tryz.prog 80 #[x.val,.pointer (some ⟨B,0,none⟩)] w fun e w'=>e=.returned (.bool (x.mod.name == name))∧Below w.heap.size w w':=by
 rw [← Zbg];obtain ⟨⟨pe,ke,e4,_⟩,⟨pi,ki,e5,_⟩,⟨pp,kp,e6,_⟩⟩:=hat;obtain ⟨⟨N,ma,mi,T,es,is,ps⟩,ve,vi,vp,fi⟩:=x;dsimp only at e4 e5 e6;subst e4 e5 e6;dsimp only [PV.val];generalize es.length=le at *;generalize is.length=li at *;generalize ps.length=lp at *
 go_enter Tryz.func80,Tryz.ntmps80
 go_wp2;go_ret;exact ⟨rfl,(Below.refl _ _).alloc (Nat.le_refl _) _⟩
theorem regFind_any (K:Ker) (l:List PV) (v:Value) (name:ByteArray) (w:World) (h:Zaw w.heap.size w v K l) (hf:K.fits) (hfit:∀ x∈l,x.mod.fits) :
  Calls Tryz.prog 29 #[v,.string name] w fun e w'=>(∃ y:PV,e=.returned (.tuple #[y.val,.int .i64 (rgFind K (l.map PV.plc) name).2])∧y.plc=(rgFind K (l.map PV.plc) name).1∧Zak w.heap.size w' y)∧Below w.heap.size w w':=by
 have HC:Hid (∀ W,Below w.heap.size w W→Calls Tryz.prog 68 #[v] W fun e w'=>e=.returned (.int .i64 (Zaq K (l.map PV.plc)))∧Below W.heap.size W w'):=fun W hb=>Zcj K l v W ((h.below hb).more hb.size) hf hfit;obtain ⟨ve,vl,rfl,hE,hrow⟩:=h;have HI:Hid (∀ W B,Below w.heap.size w W→B<W.heap.size→W.cell? ⟨B,0,none⟩=some (.string name)→Calls Tryz.prog 79 #[vl,.func (.func 80) #[] #[.pointer (some ⟨B,0,none⟩)]] W fun e w'=>e=.returned (.int .i64 (Zag (fun x:PV=>x.mod.name == name) 0 l))∧Below W.heap.size W w'):=by
  intro W B hb hlt hB;exact ixPlc_any l vl 80 (.pointer (some ⟨B,0,none⟩)) (fun w x=>enters_of Tryz.func80 (by kernel_rfl) rfl _ w) _ W ((hrow.1.below hb).more hb.size) (fun x hx W' hb'=>rgFind1_any B name x W' (Nat.lt_of_lt_of_le hlt hb'.size) ((hb'.cell (p:=⟨B,0,none⟩) hlt).trans hB) ((((((hrow.2 x hx).below hb).more hb.size)).below hb').more hb'.size))
 have HM:Hid (Zaq K (l.map PV.plc)=0→∀ x∈l,∀ W,Below w.heap.size w W→Calls Tryz.prog 81 #[x.val] W fun e w'=>(∃ y:PV,e=.returned y.val∧y.plc=x.plc∧Zak W.heap.size w' y)∧Below W.heap.size W w'):=fun h0 x hx W hb=>by
  have h1:=(link_at (chkRg_zero h0).1 hx).1;have h2:=Zbl h1;exact copyPlc_any x W (((hrow.2 x hx).below hb).more hb.size) (by omega) (by omega) (by omega)
 have key:=rgFind_cases K l name;have hat:=hrow.2;obtain ⟨qe,je,rfl,_,_⟩:=hE;obtain ⟨⟨a,cap,rfl,hmax,hrow⟩,_⟩:=hrow;generalize rgFind K (l.map PV.plc) name=R at *;generalize Zaq K (l.map PV.plc)=cr at *;generalize Zag (fun x:PV=>x.mod.name == name) 0 l=ix at *;obtain ⟨ma,mi,ks⟩:=K;dsimp only at *;clear hf hfit;generalize ks.length=lk at *;have B1:Below w.heap.size w (((w.alloc (.cells #[.int .i64 ma,.int .i64 mi,.slice qe lk je,.slice a l.length cap] 27)).alloc (.cells #[.string name] 9)).alloc (.cells #[.string ⟨#[]⟩,.int .i64 0,.int .i64 0,.string ⟨#[]⟩,.slice none 0 0,.slice none 0 0,.slice none 0 0,.int .i64 0] 57)):=(((Below.refl _ _).alloc (Nat.le_refl _) _).alloc (by simp) _).alloc (by simp;omega) _;have C1:Za (((w.alloc (.cells #[.int .i64 ma,.int .i64 mi,.slice qe lk je,.slice a l.length cap] 27)).alloc (.cells #[.string name] 9)).alloc (.cells #[.string ⟨#[]⟩,.int .i64 0,.int .i64 0,.string ⟨#[]⟩,.slice none 0 0,.slice none 0 0,.slice none 0 0,.int .i64 0] 57)) w.heap.size 27 #[.int .i64 ma,.int .i64 mi,.slice qe lk je,.slice a l.length cap]:=((Za.new w 27 #[.int .i64 ma,.int .i64 mi,.slice qe lk je,.slice a l.length cap]).kept (World.grownBy_alloc _ _ none) (by simp)).kept (World.grownBy_alloc _ _ none) (by simp);have N1:Za (((w.alloc (.cells #[.int .i64 ma,.int .i64 mi,.slice qe lk je,.slice a l.length cap] 27)).alloc (.cells #[.string name] 9)).alloc (.cells #[.string ⟨#[]⟩,.int .i64 0,.int .i64 0,.string ⟨#[]⟩,.slice none 0 0,.slice none 0 0,.slice none 0 0,.int .i64 0] 57)) (w.heap.size+1) 9 #[.string name]:=by
  have:=(Za.new (w.alloc (.cells #[.int .i64 ma,.int .i64 mi,.slice qe lk je,.slice a l.length cap] 27)) 9 #[.string name]).kept (World.grownBy_alloc _ (.cells #[.string ⟨#[]⟩,.int .i64 0,.int .i64 0,.string ⟨#[]⟩,.slice none 0 0,.slice none 0 0,.slice none 0 0,.int .i64 0] 57) none) (by simp)
  rw [World.size_alloc] at this;exact this
 have R1:Za (((w.alloc (.cells #[.int .i64 ma,.int .i64 mi,.slice qe lk je,.slice a l.length cap] 27)).alloc (.cells #[.string name] 9)).alloc (.cells #[.string ⟨#[]⟩,.int .i64 0,.int .i64 0,.string ⟨#[]⟩,.slice none 0 0,.slice none 0 0,.slice none 0 0,.int .i64 0] 57)) (w.heap.size+1+1) 57 #[.string ⟨#[]⟩,.int .i64 0,.int .i64 0,.string ⟨#[]⟩,.slice none 0 0,.slice none 0 0,.slice none 0 0,.int .i64 0]:=by
  have:=Za.new ((w.alloc (.cells #[.int .i64 ma,.int .i64 mi,.slice qe lk je,.slice a l.length cap] 27)).alloc (.cells #[.string name] 9)) 57 #[.string ⟨#[]⟩,.int .i64 0,.int .i64 0,.string ⟨#[]⟩,.slice none 0 0,.slice none 0 0,.slice none 0 0,.int .i64 0]
  rw [World.size_alloc,World.size_alloc] at this;exact this
 go_enter Tryz.func29,Tryz.ntmps29
 go_wp2_with fail;refine (HC.out _ B1).mono ?_;rintro e w2 ⟨rfl,b2⟩;replace B1:=B1.trans (b2.mono B1.size);replace C1:=C1.below b2 C1.lt;replace N1:=N1.below b2 N1.lt;replace R1:=R1.below b2 R1.lt;clear b2 HC;have k3:=C1.cell 3;have hk:=C1.lt;simp at k3
 rcases key with ⟨h0,rfl⟩ | ⟨rfl,rfl,rfl⟩ | ⟨rfl,j,x,hx,rfl,rfl⟩
 ·have h0':(cr != 0)=true:=by simpa using h0
  have r0:=Za.cell R1 0;have s0:=Za.frozen R1 0;have r1:=Za.cell R1 1;have s1:=Za.frozen R1 1;have r2:=Za.cell R1 2;have s2:=Za.frozen R1 2;have r3:=Za.cell R1 3;have s3:=Za.frozen R1 3;have r4:=Za.cell R1 4;have s4:=Za.frozen R1 4;have r5:=Za.cell R1 5;have s5:=Za.frozen R1 5;have r6:=Za.cell R1 6;have s6:=Za.frozen R1 6;have r7:=Za.cell R1 7;have s7:=Za.frozen R1 7;have hr:=Za.lt R1;simp at r0 r1 r2 r3 r4 r5 r6 r7;have HR1:Hid _:=R1;have HB1:Hid _:=B1;clear h0 HI HM R1 B1 C1 N1;go_wp2;clear r0 r1 r2 r3 r4 r5 r6 r7 s0 s1 s2 s3 s4 s5 s6 s7;have hF:=sets8 (W:=w2) (B:=w.heap.size+1+1) (t:=57) HR1.out (.string ⟨#[]⟩) (.int .i64 0) (.int .i64 0) (.string ⟨#[]⟩) (.slice none 0 0) (.slice none 0 0) (.slice none 0 0) (.int .i64 0);have hG:=sets8_grown w2 (w.heap.size+1+1) (.string ⟨#[]⟩) (.int .i64 0) (.int .i64 0) (.string ⟨#[]⟩) (.slice none 0 0) (.slice none 0 0) (.slice none 0 0) (.int .i64 0)
  (try simp only [Exit.inBlock,Exit.then])
  refine bodyPost_ret (Zab rfl _ _ _ _ _ _ _ rfl hF Tryz.underlying57 rfl (by kernel_rfl)) rfl ?_;exact ⟨⟨zeroPV,rfl,rfl,zeroPV_owns _ _⟩,HB1.out.grown hG HB1.out.size (fun k e=>by obtain rfl:=Option.some.inj e;omega)⟩
 ·clear HM
  go_wp2_with fail;refine (HI.out w2 (w.heap.size+1) B1 N1.lt (N1.cell 0)).mono ?_;rintro e w3 ⟨rfl,b3⟩;replace B1:=B1.trans (b3.mono B1.size);replace R1:=R1.below b3 R1.lt;clear HI b3 C1 N1 k3 hk;have r0:=Za.cell R1 0;have s0:=Za.frozen R1 0;have r1:=Za.cell R1 1;have s1:=Za.frozen R1 1;have r2:=Za.cell R1 2;have s2:=Za.frozen R1 2;have r3:=Za.cell R1 3;have s3:=Za.frozen R1 3;have r4:=Za.cell R1 4;have s4:=Za.frozen R1 4;have r5:=Za.cell R1 5;have s5:=Za.frozen R1 5;have r6:=Za.cell R1 6;have s6:=Za.frozen R1 6;have r7:=Za.cell R1 7;have s7:=Za.frozen R1 7;have hr:=Za.lt R1;simp at r0 r1 r2 r3 r4 r5 r6 r7;have HR1:Hid _:=R1;have HB1:Hid _:=B1;clear R1 B1;go_wp2;clear r0 r1 r2 r3 r4 r5 r6 r7 s0 s1 s2 s3 s4 s5 s6 s7;have hF:=sets8 (W:=w3) (B:=w.heap.size+1+1) (t:=57) HR1.out (.string ⟨#[]⟩) (.int .i64 0) (.int .i64 0) (.string ⟨#[]⟩) (.slice none 0 0) (.slice none 0 0) (.slice none 0 0) (.int .i64 0);have hG:=sets8_grown w3 (w.heap.size+1+1) (.string ⟨#[]⟩) (.int .i64 0) (.int .i64 0) (.string ⟨#[]⟩) (.slice none 0 0) (.slice none 0 0) (.slice none 0 0) (.int .i64 0)
  (try simp only [Exit.inBlock,Exit.then])
  refine bodyPost_ret (Zab rfl _ _ _ _ _ _ _ rfl hF Tryz.underlying57 rfl (by kernel_rfl)) rfl ?_;exact ⟨⟨zeroPV,rfl,rfl,zeroPV_owns _ _⟩,HB1.out.grown hG HB1.out.size (fun k e=>by obtain rfl:=Option.some.inj e;omega)⟩
 ·have HX:Hid (∀ W,Below w.heap.size w W→Calls Tryz.prog 81 #[x.val] W fun e w'=>(∃ y:PV,e=.returned y.val∧y.plc=x.plc∧Zak W.heap.size w' y)∧Below W.heap.size W w'):=HM.out (by first | rfl | trivial) x (List.mem_of_getElem? hx)
  have hlt:(j:Int)<(l.length:Int):=by have:=(List.getElem?_eq_some_iff.1 hx).1;omega
  have hj0:¬ ((j:Int)<0):=by omega
  rcases hrow with h | ⟨b,off,rfl,hbn,hcells⟩
  ·subst h;simp at hx
  go_wp2_with fail;refine (HI.out w2 (w.heap.size+1) B1 N1.lt (N1.cell 0)).mono ?_;rintro e w3 ⟨rfl,b3⟩;replace B1:=B1.trans (b3.mono B1.size);replace C1:=C1.below b3 C1.lt;replace R1:=R1.below b3 R1.lt;clear HI b3 N1 k3 hk HM;have k3:=C1.cell 3;have hk:=C1.lt;simp at k3;have c0:=(B1.cell (p:=⟨b,off+j*8+0,none⟩) hbn).trans (hcells j _ hx 0 (by omega));have c1:=(B1.cell (p:=⟨b,off+j*8+1,none⟩) hbn).trans (hcells j _ hx 1 (by omega));have c2:=(B1.cell (p:=⟨b,off+j*8+2,none⟩) hbn).trans (hcells j _ hx 2 (by omega));have c3:=(B1.cell (p:=⟨b,off+j*8+3,none⟩) hbn).trans (hcells j _ hx 3 (by omega));have c4:=(B1.cell (p:=⟨b,off+j*8+4,none⟩) hbn).trans (hcells j _ hx 4 (by omega));have c5:=(B1.cell (p:=⟨b,off+j*8+5,none⟩) hbn).trans (hcells j _ hx 5 (by omega));have c6:=(B1.cell (p:=⟨b,off+j*8+6,none⟩) hbn).trans (hcells j _ hx 6 (by omega));have c7:=(B1.cell (p:=⟨b,off+j*8+7,none⟩) hbn).trans (hcells j _ hx 7 (by omega));have HY:Hid (∀ y:PV,y.plc=x.plc→∃ r1 r2 r3,y=⟨x.mod,r1,r2,r3,x.first⟩):=fun y hy=>by
   obtain ⟨m,r1,r2,r3,f⟩:=y;unfold PV.plc at hy;injection hy with h1 h2;dsimp only at h1 h2;exact ⟨r1,r2,r3,by rw [h1,h2]⟩
  obtain ⟨⟨pe,ke,e4,_⟩,⟨pi,ki,e5,_⟩,⟨pp,kp,e6,_⟩⟩:=hat x (List.mem_of_getElem? hx);obtain ⟨⟨N,xa,xi,T,es,is,ps⟩,ve,vi,vp,fi⟩:=x;dsimp only [PV.val] at *;subst e4 e5 e6;dsimp only [PV.cell] at c0 c1 c2 c3 c4 c5 c6 c7;rw [Nat.add_zero] at c0;clear hcells hx hat;have hbn3:b<w3.heap.size:=Nat.lt_of_lt_of_le hbn B1.size;go_wp2_with fail;refine (HX.out _ B1).mono ?_;rintro e w4 ⟨⟨y,rfl,hy,hO⟩,b4⟩;have hz3:w.heap.size+1+1<w3.heap.size:=R1.lt;replace B1:=B1.trans (b4.mono B1.size);replace R1:=R1.below b4 R1.lt;clear HX b4 c0 c1 c2 c3 c4 c5 c6 c7 k3 hk C1;obtain ⟨r1,r2,r3,rfl⟩:=HY.out y hy;have hO':=hO;obtain ⟨o1,o2,o3⟩:=hO';dsimp only at o1 o2 o3;obtain ⟨a1,c1,rfl⟩:=Zae o1;obtain ⟨a2,c2,rfl⟩:=Zae o2;obtain ⟨a3,c3,rfl⟩:=Zae o3;have HO:Hid _:=hO;dsimp only [PV.val];generalize hle:es.length=le at *;generalize hli:is.length=li at *;generalize hlp:ps.length=lp at *;have r0:=Za.cell R1 0;have s0:=Za.frozen R1 0;have r1:=Za.cell R1 1;have s1:=Za.frozen R1 1;have r2:=Za.cell R1 2;have s2:=Za.frozen R1 2;have r3:=Za.cell R1 3;have s3:=Za.frozen R1 3;have r4:=Za.cell R1 4;have s4:=Za.frozen R1 4;have r5:=Za.cell R1 5;have s5:=Za.frozen R1 5;have r6:=Za.cell R1 6;have s6:=Za.frozen R1 6;have r7:=Za.cell R1 7;have s7:=Za.frozen R1 7;have hr:=Za.lt R1;simp at r0 r1 r2 r3 r4 r5 r6 r7;have HR1:Hid _:=R1;have HB1:Hid _:=B1;clear R1 B1 o1 o2 o3 hO HY hy;go_wp2;clear r0 r1 r2 r3 r4 r5 r6 r7 s0 s1 s2 s3 s4 s5 s6 s7;have hF:=sets8 (W:=w4) (B:=w.heap.size+1+1) (t:=57) HR1.out (.string N) (.int .i64 xa) (.int .i64 xi) (.string T) (.slice a1 le c1) (.slice a2 li c2) (.slice a3 lp c3) (.int .i64 fi);have hG:=sets8_grown w4 (w.heap.size+1+1) (.string N) (.int .i64 xa) (.int .i64 xi) (.string T) (.slice a1 le c1) (.slice a2 li c2) (.slice a3 lp c3) (.int .i64 fi)
  (try simp only [Exit.inBlock,Exit.then])
  refine bodyPost_ret (Zab rfl _ _ _ _ _ _ _ rfl hF Tryz.underlying57 rfl (by kernel_rfl)) rfl ?_;refine ⟨⟨⟨⟨N,xa,xi,T,es,is,ps⟩,.slice a1 le c1,.slice a2 li c2,.slice a3 lp c3,fi⟩,rfl,rfl,?_⟩,HB1.out.grown hG HB1.out.size (fun k e=>by obtain rfl:=Option.some.inj e;omega)⟩;subst hle hli hlp;obtain ⟨h1,h2,h3⟩:=HO.out;have hk:∀ k,some (w.heap.size+1+1)=some k→k<w3.heap.size:=fun k e=>by obtain rfl:=Option.some.inj e;exact hz3
  exact ⟨row_less2 (ZbD h1 hG hk) (by omega),row_less2 (ZbD h2 hG hk) (by omega),row_less2 (ZbD h3 hG hk) (by omega)⟩
end Go.Proofs.YtlpnfbpgnfappaaGreat
namespace Go.Proofs.YtlpnfbpgnfappaaGreat
open Go.RowKit Go.PlainAid
def kernK:Ker:=⟨0,0,[⟨⟨#[107]⟩,2⟩]⟩
theorem kern_fits:kernK.fits:=by
 intro e he
 have:e=⟨⟨#[107]⟩,2⟩:=by simpa [kernK] using he
 subst this
 decide
theorem kernelFn_any (w:World):Calls Tryz.prog 71 #[] w fun e w'=>∃ v,e=.returned v∧Zcd w'.heap.size w' v kernK∧Below w.heap.size w w':=by
 go_enter Tryz.func71,Tryz.ntmps71
 go_wp2
 (try simp only [Exit.inBlock,Exit.then])
 have hF:Za ((w.alloc (.cells #[.int .i64 0,.int .i64 0,.slice (some ⟨w.heap.size+1,0,none⟩) 1 1] 24)).alloc (.cells #[.string ⟨#[107]⟩,.int .i64 2] 129)) w.heap.size 24 #[.int .i64 0,.int .i64 0,.slice (some ⟨w.heap.size+1,0,none⟩) 1 1]:=Za.kept (Za.new w _ _) (World.grownBy_alloc _ _ none) (by simp);refine bodyPost_ret (results_cell_row rfl _ _ _ _ _ _ _ rfl hF Tryz.underlying24 rfl (by kernel_rfl)) rfl ?_;refine ⟨_,rfl,⟨_,rfl,?_⟩,((Below.refl _ _).alloc (Nat.le_refl _) _).alloc (by simp) _⟩;have c:=Za.new (w.alloc (.cells #[.int .i64 0,.int .i64 0,.slice (some ⟨w.heap.size+1,0,none⟩) 1 1] 24)) 129 #[.string ⟨#[107]⟩,.int .i64 2];rw [World.size_alloc] at c;exact ZbQ (C:=expC) (cells:=Exp.cell) (sz:=2) (fun _=>rfl) expC_at c kernK.exps (by decide) 1 rfl
theorem sameInts_yes (l:List Int) (v1 v2:Value) (w:World) (h1:Zal 1 ZbF w.heap.size w v1 l) (h2:Zal 1 ZbF w.heap.size w v2 l) :
  Calls Tryz.prog 73 #[v1,v2] w fun e w'=>e=.returned (.bool true)∧Below w.heap.size w w':=by
 obtain ⟨a1,c1,rfl,hl,h1⟩:=h1;obtain ⟨a2,c2,rfl,_,h2⟩:=h2
 go_enter Tryz.func73,Tryz.ntmps73
 go_wp2
 go_loopw [5] (fun i wr=>∃ (k:Nat),k≤l.length∧i=.int .i64 k∧Below w.heap.size w wr) (fun i _=>l.length-(intOf i).toNat)
 case atStart=>exact ⟨0,Nat.zero_le _,rfl,Below.refl _ _⟩
 case round=>
  obtain ⟨k,hk,rfl,B⟩:=hrel
  by_cases hlt:k<l.length
  ·obtain ⟨x,hx⟩:∃ x,l[k]?=some x:=⟨_,List.getElem?_eq_getElem hlt⟩
   rcases h1 with h | ⟨b1,o1,rfl,hb1,hc1⟩
   ·subst h;simp at hlt
   rcases h2 with h | ⟨b2,o2,rfl,hb2,hc2⟩
   ·subst h;simp at hlt
   have d1:wr.cell? ⟨b1,o1+k,none⟩=some (.int .i64 x):=by
    have:=(B.cell (p:=⟨b1,o1+k*1+0,none⟩) hb1).trans (hc1 k _ hx 0 (by omega))
    rw [Nat.mul_one] at this;exact this
   have d2:wr.cell? ⟨b2,o2+k,none⟩=some (.int .i64 x):=by
    have:=(B.cell (p:=⟨b2,o2+k*1+0,none⟩) hb2).trans (hc2 k _ hx 0 (by omega))
    rw [Nat.mul_one] at this;exact this
   have hne:(x != x)=false:=by simp
   clear hc1 hc2 hx;go_wp2
   go_quiet (fail)
   all_goals go_wp2
   exact ⟨⟨k+1,by omega,by go_num,below_drewN B _⟩,by simp [intOf];omega⟩
  ·obtain rfl:k=l.length:=by omega
   go_wp2;go_ret;exact ⟨rfl,B⟩
theorem find1 (vk:Value) (l:List PV) (v:Value) (w:World) (hl:l.map PV.plc=pairL) (hK:Zcd w.heap.size w vk kernK) (hP:Zax w.heap.size w v l) :
  Calls Tryz.prog 70 #[vk,v,.agg #[.string ⟨#[108,105,98]⟩,.string ⟨#[102]⟩,.int .i64 1,.int .i64 1]] w fun e w'=>e=.returned (.tuple #[.int .i64 4356,.int .i64 0])∧Below w.heap.size w w':=by
 have:=find_any kernK vk l v ⟨⟨#[108,105,98]⟩,⟨#[102]⟩,1,1⟩ w hK kern_fits hP (Zbq hl) ⟨by decide,by decide⟩
 rw [hl] at this;have e:findRes kernK pairL ⟨⟨#[108,105,98]⟩,⟨#[102]⟩,1,1⟩=(4356,0):=by kernel_rfl
 rw [e] at this;exact this
theorem find2 (vk:Value) (l:List PV) (v:Value) (w:World) (hl:l.map PV.plc=pairL) (hK:Zcd w.heap.size w vk kernK) (hP:Zax w.heap.size w v l) :
  Calls Tryz.prog 70 #[vk,v,.agg #[.string ⟨#[108,105,98]⟩,.string ⟨#[102]⟩,.int .i64 1,.int .i64 3]] w fun e w'=>e=.returned (.tuple #[.int .i64 0,.int .i64 4])∧Below w.heap.size w w':=by
 have:=find_any kernK vk l v ⟨⟨#[108,105,98]⟩,⟨#[102]⟩,1,3⟩ w hK kern_fits hP (Zbq hl) ⟨by decide,by decide⟩
 rw [hl] at this;have e:findRes kernK pairL ⟨⟨#[108,105,98]⟩,⟨#[102]⟩,1,3⟩=(0,4):=by kernel_rfl
 rw [e] at this;exact this
theorem all1 (vk:Value) (l:List PV) (v vm:Value) (w:World) (hl:l.map PV.plc=pairL) (hK:Zcd w.heap.size w vk kernK) (hP:Zax w.heap.size w v l) (hM:Zbf w.heap.size w vm appM) :
  Calls Tryz.prog 32 #[vk,v,vm] w fun e w'=>(∃ r,e=.returned (.tuple #[r,.int .i64 0])∧Zal 1 ZbF w'.heap.size w' r [4356,2])∧Below w.heap.size w w':=by
 have:=all_any kernK vk l v appM vm w hK kern_fits hP (Zbq hl) hM fits_app
 rw [hl] at this;have e:ZaK kernK pairL appM=([4356,2],0):=by kernel_rfl
 rw [e] at this;exact this
theorem kernel1 (vk:Value) (w:World) (hK:Zcd w.heap.size w vk kernK):Calls Tryz.prog 72 #[vk] w fun e w'=>e=.returned (.int .i64 0)∧Below w.heap.size w w':=by
 have:=kernel_any kernK vk w hK kern_fits
 have e:ZaS kernK=0:=by kernel_rfl
 rwa [e] at this
theorem resolveBegun_any (w:World):Calls Tryz.prog 22 #[] w fun e w'=>e=.returned (.bool true)∧Below w.heap.size w w':=by
 go_enter Tryz.func22,Tryz.ntmps22
 go_wp2_with fail;refine (kernelFn_any _).mono ?_;rintro e w1 ⟨vk,rfl,hK,b1⟩;go_wp2_with fail;refine (pair_any _).mono ?_;rintro e w2 ⟨v,l,rfl,hl,hP,b2⟩;go_wp2_with fail;refine (app_any _).mono ?_;rintro e w3 ⟨vm,rfl,hM,b3⟩;have b23:=b2.trans (b3.mono b2.size);have HK:Hid (Zcd w3.heap.size w3 vk kernK):=(hK.below b23).more b23.size;have HP:Hid (Zax w3.heap.size w3 v l):=(hP.below b3).more b3.size;have HL:Hid (l.map PV.plc=pairL):=hl;have B3:=b1.trans (b23.mono b1.size);obtain ⟨ve,vi,vp,rfl,hE,hI,hPt⟩:=hM;obtain ⟨ai,ci,rfl,_,hI | ⟨b,off,rfl,hbn,hcells⟩⟩:=hI
 ·exact absurd hI (by decide)
 have c0:w3.cell? ⟨b,off,none⟩=some (.string ⟨#[108,105,98]⟩):=hcells 0 ⟨⟨#[108,105,98]⟩,⟨#[102]⟩,1,1⟩ rfl 0 (by omega);have c1:w3.cell? ⟨b,off+1,none⟩=some (.string ⟨#[102]⟩):=hcells 0 ⟨⟨#[108,105,98]⟩,⟨#[102]⟩,1,1⟩ rfl 1 (by omega);have c2:w3.cell? ⟨b,off+2,none⟩=some (.int .i64 1):=hcells 0 ⟨⟨#[108,105,98]⟩,⟨#[102]⟩,1,1⟩ rfl 2 (by omega);have c3:w3.cell? ⟨b,off+3,none⟩=some (.int .i64 1):=hcells 0 ⟨⟨#[108,105,98]⟩,⟨#[102]⟩,1,1⟩ rfl 3 (by omega);dsimp only [appM];have hfd:∀ w:World,(Instr.field 31 (.agg #[.string ⟨#[97,112,112]⟩,.int .i64 0,.int .i64 0,.string ⟨#[46,46,46,46,46,46,46,46]⟩,ve,.slice (some ⟨b,off,none⟩) 2 ci,vp]) 5).run Tryz.prog w=.ok (.slice (some ⟨b,off,none⟩) 2 ci) w:=fun _=>by kernel_rfl
 clear hE hPt hcells hK hP hl b1 b2 b3 b23;go_wp2_with fail;refine (find1 vk l v _ HL.out HK.out HP.out).mono ?_;rintro e w4 ⟨rfl,b4⟩;have B4:=B3.trans (b4.mono B3.size);clear b4 c0 c1 c2 c3 HK HP HL B3 hfd;go_wp2_with fail;refine (kernelFn_any _).mono ?_;rintro e w5 ⟨vk,rfl,hK,b5⟩;go_wp2_with fail;refine (pair_any _).mono ?_;rintro e w6 ⟨v,l,rfl,hl,hP,b6⟩;go_wp2_with fail;refine (app_any _).mono ?_;rintro e w7 ⟨vm,rfl,hM,b7⟩;have b67:=b6.trans (b7.mono b6.size);have HK:Hid (Zcd w7.heap.size w7 vk kernK):=(hK.below b67).more b67.size;have HP:Hid (Zax w7.heap.size w7 v l):=(hP.below b7).more b7.size;have HL:Hid (l.map PV.plc=pairL):=hl;have HM:Hid (Zbf w7.heap.size w7 vm appM):=hM;have B7:=B4.trans ((b5.trans (b67.mono b5.size)).mono B4.size);clear hK hP hl hM b5 b6 b7 b67 B4;go_wp2_with fail;refine (all1 vk l v vm _ HL.out HK.out HP.out HM.out).mono ?_;rintro e w8 ⟨⟨r,rfl,hR⟩,b8⟩;have B8:=B7.trans (b8.mono B7.size);have HR:Hid (Zal 1 ZbF w8.heap.size w8 r [4356,2]):=hR;clear b8 HK HP HL HM B7 hR;go_wp2_with fail;refine (kernelFn_any _).mono ?_;rintro e w9 ⟨vk,rfl,hK,b9⟩;go_wp2_with fail;refine (pair_any _).mono ?_;rintro e w10 ⟨v,l,rfl,hl,hP,b10⟩;have HK:Hid (Zcd w10.heap.size w10 vk kernK):=(hK.below b10).more b10.size;have HP:Hid (Zax w10.heap.size w10 v l):=hP;have HL:Hid (l.map PV.plc=pairL):=hl;have b910:=b9.trans (b10.mono b9.size);have B10:=B8.trans (b910.mono B8.size);have HR10:Hid (Zal 1 ZbF w10.heap.size w10 r [4356,2]):=(HR.out.below b910).more b910.size;clear hK hP hl b9 b10 b910 B8 HR;go_wp2_with fail;refine (find2 vk l v _ HL.out HK.out HP.out).mono ?_;rintro e w11 ⟨rfl,b11⟩;have B11:=B10.trans (b11.mono B10.size);have HR11:Hid (Zal 1 ZbF w11.heap.size w11 r [4356,2]):=(HR10.out.below b11).more b11.size;clear b11 HK HP HL B10 HR10;go_wp2_with fail;refine (kernelFn_any _).mono ?_;rintro e w12 ⟨vk,rfl,hK,b12⟩;have HK:Hid (Zcd w12.heap.size w12 vk kernK):=hK;have B12:=B11.trans (b12.mono B11.size);have HR12:Hid (Zal 1 ZbF w12.heap.size w12 r [4356,2]):=(HR11.out.below b12).more b12.size;clear hK b12 HR11 B11;go_wp2_with fail;refine (kernel1 vk _ HK.out).mono ?_;rintro e w13 ⟨rfl,b13⟩;have B13:=B12.trans (b13.mono B12.size);have HR13:Hid (Zal 1 ZbF w13.heap.size w13 r [4356,2]):=(HR12.out.below b13).more b13.size;clear b13 HR12 B12;have HB14:Hid (Below w13.heap.size w13 (w13.alloc (.cells #[.int .i64 4356,.int .i64 2] 3))):=(Below.refl _ _).alloc (Nat.le_refl _) _;have HI14:Hid (Zal 1 ZbF (w13.alloc (.cells #[.int .i64 4356,.int .i64 2] 3)).heap.size (w13.alloc (.cells #[.int .i64 4356,.int .i64 2] 3)) (.slice (some ⟨w13.heap.size,0,none⟩) 2 2) [4356,2]):=
  ZbQ (C:=intC) (cells:=ZbF) (sz:=1) (fun _=>rfl) intC_at (Za.new w13 3 #[.int .i64 4356,.int .i64 2]) [4356,2] (by decide) 2 rfl
 go_wp2_with fail;refine (sameInts_yes [4356,2] r _ _ ((HR13.out.below HB14.out).more HB14.out.size) HI14.out).mono ?_;rintro e w15 ⟨rfl,b15⟩;have B14:=B13.trans (HB14.out.mono B13.size);have B15:=B14.trans (b15.mono B14.size);go_wp2;go_ret;exact ⟨rfl,B15⟩
end Go.Proofs.YtlpnfbpgnfappaaGreat
namespace Go.Proofs.YtlpnfbpgnfappaaGreat
open Go.RowKit Go.PlainAid Go.Maps Go.WideMaps
theorem comeTo_any (nx:Mod→Mod→Bool) (K:FuncId) (hK:∀ w x y,Sem.run Tryz.prog (callFunc K #[x,y]) w=.ok (.enter K #[x,y]) w) (l:List PV) (v:Value) (name:ByteArray) (w:World) (hrow:Zax w.heap.size w v l) (hfit:∀ x∈l,x.mod.fits)
  (hp:∀ x∈l,∀ y∈l,∀ W,Below w.heap.size w W→Calls Tryz.prog K #[x.modV,y.modV] W fun e W'=>e=.returned (.bool (nx x.mod y.mod))∧Below W.heap.size W W') :
  Calls Tryz.prog 97 #[v,.string name,.func (.func K) #[] #[]] w fun e w'=>(∃ r ss,e=.returned (.tuple #[r,.int .i64 (Zbz (l.map PV.plc) name)])∧Zal 1 Zbn w'.heap.size w' r ss∧ZbW nx (l.map PV.plc) name ss)∧Below w.heap.size w w':=by
 have HW:Hid (∀ W,Below w.heap.size w W→Calls Tryz.prog 88 #[v] W fun e w'=>e=.returned (.int .i64 (Zav (l.map PV.plc)))∧Below W.heap.size W w'):=fun W hb=>graphWrong_any l v W ((hrow.below hb).more hb.size) hfit;have HI:Hid (∀ W B,Below w.heap.size w W→B<W.heap.size→W.cell? ⟨B,0,none⟩=some (.string name)→Calls Tryz.prog 79 #[v,.func (.func 153) #[] #[.pointer (some ⟨B,0,none⟩)]] W fun e w'=>e=.returned (.int .i64 (Zag (fun x:PV=>x.mod.name == name) 0 l))∧Below W.heap.size W w'):=by
  intro W B hb hlt hB;exact ixPlc_any l v 153 (.pointer (some ⟨B,0,none⟩)) (fun w x=>enters_of Tryz.func153 (by kernel_rfl) rfl _ w) _ W ((hrow.1.below hb).more hb.size) (fun x hx W' hb'=>come1_any B name x W' (Nat.lt_of_lt_of_le hlt hb'.size) ((hb'.cell (p:=⟨B,0,none⟩) hlt).trans hB) ((((((hrow.2 x hx).below hb).more hb.size)).below hb').more hb'.size))
 have HN:Hid (∀ (i k:Nat) (x y:PV),l[i]?=some x→l[k]?=some y→∀ W,Below w.heap.size w W→Calls Tryz.prog K #[x.modV,y.modV] W fun e W'=>e=.returned (.bool (nx x.mod y.mod))∧Below W.heap.size W W'):=fun i k x y hx hy=>hp x (List.mem_of_getElem? hx) y (List.mem_of_getElem? hy);have HT:Hid (Zav (l.map PV.plc)=0→l.length≤8∧Told nx l (Next nx (l.map (·.mod))) (nameAt (l.map (·.mod)))):=by
  intro h0;have h1:=Zcc.1 h0;refine ⟨by simpa using h1.1,told_of nx l ?_⟩
  have:=h1.2.2
  rw [List.map_map] at this;exact this
 have HCO:Hid (∀ f ss,Comes nx (l.map (·.mod)) f ss↔Rising ss∧∀ x,x∈ss↔∃ k,Via (Next nx (l.map (·.mod))) f k∧nameAt (l.map (·.mod)) k=x):=fun f ss=>Iff.rfl;have hat:=hrow.2;have key:=come_cases nx l name;obtain ⟨⟨a,cap,rfl,hmax,hrow⟩,_⟩:=hrow;generalize Zbz (l.map PV.plc) name=R at *;generalize ZbW nx (l.map PV.plc) name=CR at *;generalize Zav (l.map PV.plc)=cg at *;generalize Zag (fun x:PV=>x.mod.name == name) 0 l=ix at *;generalize Comes nx (l.map (·.mod))=CM at *;generalize Next nx (l.map (·.mod))=E at *;generalize nameAt (l.map (·.mod))=nA at *;clear hp;have hmm:=@run_makeMap Tryz.prog
 go_enter Tryz.func97,Tryz.ntmps97
 go_wp2_with fail;have HB1:Below w.heap.size w (w.alloc (.cells #[.string name] 9)):=(Below.refl _ _).alloc (Nat.le_refl _) _;refine (HW.out _ HB1).mono ?_;rintro e w2 ⟨rfl,b2⟩;have HBOX:Hid (w.heap.size<w2.heap.size∧w2.cell? ⟨w.heap.size,0,none⟩=some (.string name)):=by
  refine ⟨Nat.lt_of_lt_of_le (by simp) b2.size,?_⟩;exact (b2.cell (p:=⟨w.heap.size,0,none⟩) (by simp)).trans ((Za.new w 9 #[.string name]).cell 0)
 have B2:=HB1.trans (b2.mono HB1.size);clear HB1 b2 HW
 rcases key with ⟨h0,rfl,hC⟩ | ⟨rfl,rfl,rfl,hC⟩ | ⟨rfl,f,hf,rfl,rfl,hC⟩
 ·have h0':(R != 0)=true:=by simpa using h0
  have HC:Hid (CR []):=hC;clear hrow hat h0 hC HN HT HCO;go_wp2;go_ret2;exact ⟨⟨_,[],rfl,⟨none,0,rfl,by simp,.inl rfl⟩,HC.out⟩,B2⟩
 ·have HC:Hid (CR []):=hC
  clear hrow hat hC HN HT HCO;go_wp2_with fail;refine (HI.out w2 w.heap.size B2 HBOX.out.1 HBOX.out.2).mono ?_;rintro e w3 ⟨rfl,b3⟩;have B3:=B2.trans (b3.mono B2.size);clear HI HBOX b3;go_wp2;go_ret2;exact ⟨⟨_,[],rfl,⟨none,0,rfl,by simp,.inl rfl⟩,HC.out⟩,B3⟩
 ·have HC:Hid (∀ ss,CM f ss→CR ss):=hC
  obtain ⟨h8,hT⟩:=HT.out (by first | rfl | trivial);have HTT:Hid (Told nx l E nA):=hT;clear hC HT hT;go_wp2_with fail;refine (HI.out w2 w.heap.size B2 HBOX.out.1 HBOX.out.2).mono ?_;rintro e w3 ⟨rfl,b3⟩;have B3:=B2.trans (b3.mono B2.size);clear HI HBOX b3 B2;go_wp2_with fail
  go_loopg [11] (2*l.length+1) (fun n q wr=>∃ (met work:List Nat) (D:DataW Unit),Hid ((n=2*(l.length-met.length)+work.length∧n≤2*l.length+1)∧Come E l.length f met work∧Zbt D (met.map nA))∧wr.ownsMap Tryz.prog 9 (plainElem Tryz.prog 3) w3.heap.size met.length D∧QRow wr (w3.heap.size+1) q work∧Below w3.heap.size w3 wr)
  case atStart=>
   refine ⟨[],[f],.map [],⟨by simp,Come.start E _ f,Zbt.none⟩,(World.ownsMap_made w3 Tryz.prog 9 _).kept (World.grownBy_alloc _ _ none) (by simp),?_,((Below.refl _ _).alloc (Nat.le_refl _) _).alloc (by simp) _⟩
   have:=Za.new (w3.alloc (.map #[] 0)) 3 #[.int .i64 (f:Int)]
   rw [World.size_alloc] at this;refine ⟨w3.heap.size+1,0,1,_,by simp,Nat.le_refl _,this,by simp,by simp,by omega,?_⟩;intro j x hj
   cases j with
   | zero=>simp at hj;subst hj;rfl
   | succ j=>simp at hj
  case round=>
   obtain ⟨met,work,D,HX,hown,hq,B⟩:=hrel;have BW:Below w.heap.size w wr:=B3.trans (B.mono B3.size);obtain ⟨g,o,cp,rfl,hle,hcp,hg⟩:=hq.form
   cases work with
   | nil=>
    simp only [List.length_nil] at hq hle;have hmet:met.length≤8:=by have:=HX.out.2.1.le;omega
    simp only [List.length_nil];clear hrow hat;go_wp2_with fail;refine (keysOf_any (some w3.heap.size) wr).mono ?_;rintro e w4 ⟨rfl,rfl⟩;go_wp2_with fail;refine (sortedKeys_any w3.heap.size met.length D _ wr hown (by have:=hown.size_le;unfold maxLen;omega) (by have:=hown.size_le;omega)).mono ?_;rintro e w5 ⟨v5,ss,rfl,hperm,hrow5,_,b5⟩;obtain ⟨rs,hR1,hR2,hR3⟩:=sorted_names hown HX.out.2.2 (HTT.out.nodup met HX.out.2.1.lt HX.out.2.1.nodup) (by rw [List.length_map];omega) hperm hrow5;have HCR:Hid (CR rs):=HC.out rs ((HCO.out f rs).2 ⟨hR2,fun x=>by
     rw [hR3,List.mem_map]
     constructor
     ·rintro ⟨k,hk,rfl⟩;exact ⟨k,(HX.out.2.1.all k).1 hk,rfl⟩
     ·rintro ⟨k,hk,rfl⟩;exact ⟨k,(HX.out.2.1.all k).2 hk,rfl⟩⟩)
    have BZ:Below w.heap.size w w5:=(BW.alloc BW.size _).trans (b5.mono (BW.alloc BW.size _).size);have HR1:Hid (Zal 1 Zbn w5.heap.size w5 v5 rs):=hR1;clear hperm hrow5 hR1 hR2 hR3 b5 BW;go_wp2;go_ret2;exact ⟨⟨_,rs,rfl,HR1.out,HCR.out⟩,BZ⟩
   | cons j rest=>
    have hj:j<l.length:=by
     rcases HX.out.2.1.wk j (by simp) with h | h
     ·omega
     ·exact HX.out.2.1.lt j h
    obtain ⟨x,hx⟩:∃ x,l[j]?=some x:=⟨_,List.getElem?_eq_getElem hj⟩
    rcases hrow with h | ⟨b,off,rfl,hbn,hcells⟩
    ·subst h;simp at hj
    have HCL:Hid (∀ (W:World),Below w.heap.size w W→∀ (j:Nat) (x:PV),l[j]?=some x→∀ i,i<8→W.cell? ⟨b,off+j*8+i,none⟩=some (PV.cell x i)):=fun W hb j x hx i hi=>(hb.cell (p:=⟨b,off+j*8+i,none⟩) hbn).trans (hcells j x hx i hi);clear hcells;obtain ⟨hc0,o2,ho2,hq2⟩:=hq.pop;have HN2:Hid (∀ (k:Nat) (y:PV),l[k]?=some y→∀ W,Below w.heap.size w W→Calls Tryz.prog K #[x.modV,y.modV] W fun e W'=>e=.returned (.bool (nx x.mod y.mod))∧Below W.heap.size W W'):=fun k y hy=>HN.out j k x y hx hy;have HE2:Hid (∀ (k:Nat) (y:PV),l[k]?=some y→(E j k↔nx x.mod y.mod=true)):=fun k y hy=>HTT.out.edge j k x y hx hy;have HX2:Hid ((2*(l.length-met.length)+rest.length<gk∧gk≤2*l.length+1)∧ComeIn E l.length f j 0 met rest∧Zbt D (met.map nA)):=by
     have h1:=HX.out.1;simp at h1;exact ⟨⟨by omega,h1.2⟩,HX.out.2.1.pop,HX.out.2.2⟩
    obtain ⟨⟨pe,ke,e4,_⟩,⟨pi,ki,e5,_⟩,⟨pp,kp,e6,_⟩⟩:=hat x (List.mem_of_getElem? hx);have c0:=HCL.out wr BW j x hx 0 (by omega);have c1:=HCL.out wr BW j x hx 1 (by omega);have c2:=HCL.out wr BW j x hx 2 (by omega);have c3:=HCL.out wr BW j x hx 3 (by omega);have c4:=HCL.out wr BW j x hx 4 (by omega);have c5:=HCL.out wr BW j x hx 5 (by omega);have c6:=HCL.out wr BW j x hx 6 (by omega);clear hx HN HX;obtain ⟨⟨N,ma,mi,T,es,is,ps⟩,ve,vi,vp,fi⟩:=x;dsimp only at e4 e5 e6;subst e4 e5 e6;dsimp only [PV.cell] at c0 c1 c2 c3 c4 c5 c6;dsimp only [PV.modV] at HN2;rw [Nat.add_zero] at c0;generalize es.length=le at *;generalize is.length=li at *;generalize ps.length=lp at *;simp only [List.length_cons] at hle hq;simp only [List.length_cons];clear hq;go_wp2_with fail;have HA0:Hid (Below w3.heap.size w3 wr):=B
    go_loopw [11,44] (fun q i wi=>∃ (k:Nat) (met2 work2:List Nat) (D2:DataW Unit),k≤l.length∧i=.int .i64 k∧Hid ((2*(l.length-met2.length)+work2.length<gk∧gk≤2*l.length+1)∧ComeIn E l.length f j k met2 work2∧Zbt D2 (met2.map nA))∧wi.ownsMap Tryz.prog 9 (plainElem Tryz.prog 3) w3.heap.size met2.length D2∧QRow wi (w3.heap.size+1) q work2∧Hid (∀ g',q.ownBlock=some g'→g'≠wr.heap.size)∧Za wi wr.heap.size 31 #[.string N,.int .i64 ma,.int .i64 mi,.string T,.slice pe le ke,.slice pi li ki,.slice pp lp kp]∧Below w3.heap.size w3 wi∧Hid (w3.heap.size<wr.heap.size)) (fun _ i _=>l.length-(intOf i).toNat)
    case atStart=>
     refine ⟨0,met,rest,D,Nat.zero_le _,rfl,HX2.out,hown.kept (World.grownBy_alloc _ _ none) (by simp),hq2.kept (World.grownBy_alloc _ _ none) (by simp),?_,Za.new _ _ _,B.alloc B.size _,?_⟩
     ·intro g' hg'
      have:g=g':=by simpa [Value.ownBlock] using hg'
      omega
     ·exact hown.lt
    case round=>
     obtain ⟨k,met2,work2,D2,hk,rfl,HY,hown2,hqq,HNE,hCC,BI,HL⟩:=hrel;have BIW:Below w.heap.size w wr:=B3.trans (BI.mono B3.size);obtain ⟨g2,o3,cp2,rfl,hle2,hcp2,hg2⟩:=hqq.form;clear hle hc0 c0 c1 c2 c3 c4 c5 c6 hq2 HX2 hown ho2 hg BW HA0
     by_cases hlt:k<l.length
     ·obtain ⟨y,hy⟩:∃ y,l[k]?=some y:=⟨_,List.getElem?_eq_getElem hlt⟩
      have hn:y.mod.name.size≤9223372036854775807:=(hfit y (List.mem_of_getElem? hy)).1;have hkey:keyOf Tryz.prog 9 (.string y.mod.name)=some (.string y.mod.name.data.toList):=keyOf_string_mk Tryz.underlying9 hn;have hhas:=HY.out.2.2 y.mod.name;have HIN:Hid (((met2.map nA).any fun z=>z == y.mod.name)=true↔k∈met2):=by
       have:=HTT.out.met met2 HY.out.2.1.lt k hlt
       rw [HTT.out.name k y hy] at this;exact this
      have HPUT:Hid (∀ d,Zbt (D2.put (.string y.mod.name.data.toList) d) ((met2++[k]).map nA)):=fun d=>by
       rw [List.map_append,List.map_cons,List.map_nil,HTT.out.name k y hy];exact HY.out.2.2.put hown2.isMap y.mod.name d
      have HNC:Hid (∀ W,Below w.heap.size w W→Calls Tryz.prog K #[.agg #[.string N,.int .i64 ma,.int .i64 mi,.string T,.slice pe le ke,.slice pi li ki,.slice pp lp kp],y.modV] W fun e W'=>e=.returned (.bool (nx ⟨N,ma,mi,T,es,is,ps⟩ y.mod))∧Below W.heap.size W W'):=HN2.out k y hy;have HED:Hid (E j k↔nx ⟨N,ma,mi,T,es,is,ps⟩ y.mod=true):=HE2.out k y hy;obtain ⟨⟨ye,je,e4,_⟩,⟨yi,ji,e5,_⟩,⟨yp,jp,e6,_⟩⟩:=hat y (List.mem_of_getElem? hy);have c0:=HCL.out wr BIW k y hy 0 (by omega);have c1:=HCL.out wr BIW k y hy 1 (by omega);have c2:=HCL.out wr BIW k y hy 2 (by omega);have c3:=HCL.out wr BIW k y hy 3 (by omega);have c4:=HCL.out wr BIW k y hy 4 (by omega);have c5:=HCL.out wr BIW k y hy 5 (by omega);have c6:=HCL.out wr BIW k y hy 6 (by omega);have c7:=HCL.out wr BIW k y hy 7 (by omega);have hC2:=hCC.kept (World.grownBy_alloc wr (.cells #[.string y.mod.name,.int .i64 y.mod.major,.int .i64 y.mod.minor,.string y.mod.text,y.ve,y.vi,y.vp,.int .i64 y.first] 57) none) (by simp);have m0:=hC2.cell 0;have m1:=hC2.cell 1;have m2:=hC2.cell 2;have m3:=hC2.cell 3;have m4:=hC2.cell 4;have m5:=hC2.cell 5;have m6:=hC2.cell 6;simp at m0 m1 m2 m3 m4 m5 m6;clear hy;generalize nx ⟨N,ma,mi,T,es,is,ps⟩ y.mod=t at HNC HED;obtain ⟨⟨N',ma',mi',T',es',is',ps'⟩,ve,vi,vp,fi'⟩:=y;dsimp only at e4 e5 e6 hn hkey hhas HIN HPUT hC2 m0 m1 m2 m3 m4 m5 m6;subst e4 e5 e6;dsimp only [PV.cell] at c0 c1 c2 c3 c4 c5 c6 c7;dsimp only [PV.modV] at HNC;rw [Nat.add_zero] at c0;generalize es'.length=le' at *;generalize is'.length=li' at *;generalize ps'.length=lp' at *;generalize (met2.map nA).any (fun z=>z == N')=TT at HIN hhas
      cases TT
      ·go_wp2_with (first
        | (at_lookup;refine wpList_lookup_own_ok_int _ rfl _ _ 171 rfl 9 3 .i64 lawS Tryz.underlying171 Tryz.underlying3 (zeroI _) w3.heap.size met2.length D2 rfl (hown2.kept (World.grownBy_alloc _ _ none) (by simp)) _ _ rfl hkey ?_;intro c hat' hwc;clear hat' hwc))
       refine Calls.mono (HNC.out _ (BIW.alloc BIW.size _)) ?_;rintro e wc ⟨rfl,bc⟩;have hownc:=map_below (hown2.kept (World.grownBy_alloc wr (.cells #[.string N',.int .i64 ma',.int .i64 mi',.string T',.slice ye le' je,.slice yi li' ji,.slice yp lp' jp,.int .i64 fi'] 57) none) (by simp)) bc (by have:=hown2.lt;simp;omega);have hqc:=(hqq.kept (World.grownBy_alloc wr (.cells #[.string N',.int .i64 ma',.int .i64 mi',.string T',.slice ye le' je,.slice yi li' ji,.slice yp lp' jp,.int .i64 fi'] 57) none) (by simp)).below bc (Nat.le_refl _);have hCc:=hC2.below bc hC2.lt;have cN:wc.cell? ⟨wr.heap.size,0,none⟩=some (.string N'):=(bc.cell (p:=⟨wr.heap.size,0,none⟩) (by simp)).trans ((Za.new wr 57 #[.string N',.int .i64 ma',.int .i64 mi',.string T',.slice ye le' je,.slice yi li' ji,.slice yp lp' jp,.int .i64 fi']).cell 0);have BC:Below w3.heap.size w3 wc:=(BI.alloc BI.size _).trans (bc.mono (BI.alloc BI.size _).size);have HSZ:Hid (wr.heap.size<wc.heap.size):=Nat.lt_of_lt_of_le (by simp) bc.size;clear c0 c1 c2 c3 c4 c5 c6 c7 m0 m1 m2 m3 m4 m5 m6 hC2 bc HNC hat BIW
       cases t
       ·go_wp2
        exact ⟨⟨k+1,met2,work2,D2,by omega,by go_num,⟨HY.out.1,HY.out.2.1.skip (.inr (fun he=>by simpa using HED.out.1 he)),HY.out.2.2⟩,hownc,hqc,HNE.out,hCc,BC,HL.out⟩,by simp [intOf];omega⟩
       ·have hm2:met2.length≤8:=by have:=HY.out.2.1.le;omega
        have hw2:work2.length≤17:=by have:=HY.out.1;omega
        have HNEM:Hid (∀ g',Value.ownBlock (.slice (some ⟨g2,o3,none⟩) work2.length cp2)=some g'→some g'≠some w3.heap.size):=fun g' h1 h2=>by
         have:=(hqq.base g' h1).1
         injection h2 with h2
         omega
        have HADD:Hid (ComeIn E l.length f j (k+1) (met2++[k]) (work2++[k])∧2*(l.length-(met2++[k]).length)+(work2++[k]).length<gk):=by
         have hnot:k ∉ met2:=fun h=>by simpa using HIN.out.2 h
         have hc:=HY.out.2.1.add hnot hlt (HED.out.2 rfl);refine ⟨hc,?_⟩;have h1:=HY.out.1;have h2:=hc.le;simp at h2 ⊢
         omega
        go_wp2_with (first
         | (at_mapUpdate;refine wpList_mapUpdate_own _ rfl _ _ _ 171 rfl 9 3 lawS Tryz.underlying171 _ w3.heap.size met2.length _ rfl hownc (by unfold maxLen;omega) _ _ _ rfl rfl hkey _ [] (plainElem_int Tryz.underlying3 (WalkArith.wf_i64 (by omega))) ?_;intro w1 hown1 hgrow1)
         | (at_builtin;refine wpList_queue _ rfl _ _ rfl (w3.heap.size+1) (.slice (some ⟨g2,o3,none⟩) work2.length cp2) work2 rfl ((hqc.kept hgrow1 HNEM.out).kept (World.grownBy_alloc _ _ none) (by simp)) w1.heap.size k rfl ((Za.new w1 3 #[.int .i64 (k:Int)]).cell 0) (by omega) (by have:=hown1.lt;simp;omega) ?_;intro v' wq hq' hgq hv'))
        have BG:=BC.grown hgrow1 BC.size (fun i hi=>by cases hi;exact Nat.le_refl _);have BH:=BG.alloc BG.size (.cells #[.int .i64 (k:Int)] 3);have OW:=(hown1.kept (World.grownBy_alloc _ _ none) (by simp)).kept hgq (fun e=>HNEM.out _ e.symm rfl);rw [show met2.length+1=(met2++[k]).length by simp] at OW;refine ⟨⟨k+1,met2++[k],work2++[k],_,by omega,by go_num,⟨⟨HADD.out.2,HY.out.1.2⟩,HADD.out.1,HPUT.out _⟩,OW,hq',?_,?_,BH.grown hgq BH.size (fun i hi=>by have:=(hqq.base i hi).1;omega),HL.out⟩,by simp [intOf];omega⟩
        ·intro g' hg'
         rcases hv' g' hg' with h1 | h1
         ·exact HNE.out g' h1
         ·have h2:=hCc.lt
          have h3:=hgrow1.size;simp at h1
          omega
        ·refine ((hCc.kept hgrow1 (fun e=>?_)).kept (World.grownBy_alloc _ _ none) (by simp)).kept hgq (fun e=>HNE.out _ e.symm rfl)
         injection e with e
         have:=HL.out
         omega
      ·go_wp2_with (first
        | (at_lookup;refine wpList_lookup_own_ok_int _ rfl _ _ 171 rfl 9 3 .i64 lawS Tryz.underlying171 Tryz.underlying3 (zeroI _) w3.heap.size met2.length D2 rfl (hown2.kept (World.grownBy_alloc _ _ none) (by simp)) _ _ rfl hkey ?_;intro c hat' hwc;clear hat' hwc))
       exact ⟨⟨k+1,met2,work2,D2,by omega,by go_num,⟨HY.out.1,HY.out.2.1.skip (.inl (HIN.out.1 rfl)),HY.out.2.2⟩,hown2.kept (World.grownBy_alloc _ _ none) (by simp),hqq.kept (World.grownBy_alloc _ _ none) (by simp),HNE.out,hC2,BI.alloc BI.size _,HL.out⟩,by simp [intOf];omega⟩
     ·obtain rfl:k=l.length:=by omega
      go_wp2_with fail
      go_roundg (2*(l.length-met2.length)+work2.length)
      case measure=>exact HY.out.1.1
      case rel=>exact ⟨met2,work2,D2,⟨⟨rfl,by have:=HY.out.1;omega⟩,HY.out.2.1.fin (fun k hk=>HTT.out.lt _ _ hk),HY.out.2.2⟩,hown2,hqq,BI⟩
end Go.Proofs.YtlpnfbpgnfappaaGreat
namespace Go.Proofs.YtlpnfbpgnfappaaGreat
open Go.RowKit Go.PlainAid
theorem needs1_any (x y:PV) (w:World) (hx:ZbH w.heap.size w x) (hy:ZbH w.heap.size w y) :
  Calls Tryz.prog 124 #[x.modV,y.modV] w fun e w'=>e=.returned (.bool (ZbC x.mod y.mod))∧Below w.heap.size w w':=by
 have HA:Hid (∀ W,Below w.heap.size w W→Calls Tryz.prog 99 #[x.modV,.string y.mod.name] W fun e w'=>e=.returned (.bool (ZbC x.mod y.mod))∧Below W.heap.size W w'):=fun W hb=>asks_any x.mod x.modV y.mod.name W (((hx.below hb).more hb.size).isMod);obtain ⟨⟨pe,ke,e4,_⟩,⟨pi,ki,e5,_⟩,⟨pp,kp,e6,_⟩⟩:=hx;obtain ⟨⟨ye,je,f4,_⟩,⟨yi,ji,f5,_⟩,⟨yp,jp,f6,_⟩⟩:=hy;generalize ZbC x.mod y.mod=t at *;obtain ⟨⟨N,ma,mi,T,es,is,ps⟩,ve,vi,vp,fi⟩:=x;obtain ⟨⟨N',ma',mi',T',es',is',ps'⟩,ve',vi',vp',fi'⟩:=y;dsimp only at e4 e5 e6 f4 f5 f6;subst e4 e5 e6 f4 f5 f6;dsimp only [PV.modV] at *;generalize es.length=le at *;generalize is.length=li at *;generalize ps.length=lp at *;generalize es'.length=le' at *;generalize is'.length=li' at *;generalize ps'.length=lp' at *;have HB:Hid (Below w.heap.size w ((w.alloc (.cells #[.string N,.int .i64 ma,.int .i64 mi,.string T,.slice pe le ke,.slice pi li ki,.slice pp lp kp] 31)).alloc (.cells #[.string N',.int .i64 ma',.int .i64 mi',.string T',.slice ye le' je,.slice yi li' ji,.slice yp lp' jp] 31))):=((Below.refl _ _).alloc (Nat.le_refl _) _).alloc (by simp) _
 go_enter Tryz.func124,Tryz.ntmps124
 go_wp2_with fail;refine (HA.out _ HB.out).mono ?_;rintro e w2 ⟨rfl,b2⟩;have B2:=HB.out.trans (b2.mono HB.out.size);clear HA HB b2;go_wp2;go_ret;exact ⟨rfl,B2⟩
theorem users1_any (x y:PV) (w:World) (hx:ZbH w.heap.size w x) (hy:ZbH w.heap.size w y) :
  Calls Tryz.prog 98 #[x.modV,y.modV] w fun e w'=>e=.returned (.bool (nxUse x.mod y.mod))∧Below w.heap.size w w':=by
 have HA:Hid (∀ W,Below w.heap.size w W→Calls Tryz.prog 99 #[y.modV,.string x.mod.name] W fun e w'=>e=.returned (.bool (nxUse x.mod y.mod))∧Below W.heap.size W w'):=fun W hb=>asks_any y.mod y.modV x.mod.name W (((hy.below hb).more hb.size).isMod);obtain ⟨⟨pe,ke,e4,_⟩,⟨pi,ki,e5,_⟩,⟨pp,kp,e6,_⟩⟩:=hx;obtain ⟨⟨ye,je,f4,_⟩,⟨yi,ji,f5,_⟩,⟨yp,jp,f6,_⟩⟩:=hy;generalize nxUse x.mod y.mod=t at *;obtain ⟨⟨N,ma,mi,T,es,is,ps⟩,ve,vi,vp,fi⟩:=x;obtain ⟨⟨N',ma',mi',T',es',is',ps'⟩,ve',vi',vp',fi'⟩:=y;dsimp only at e4 e5 e6 f4 f5 f6;subst e4 e5 e6 f4 f5 f6;dsimp only [PV.modV] at *;generalize es.length=le at *;generalize is.length=li at *;generalize ps.length=lp at *;generalize es'.length=le' at *;generalize is'.length=li' at *;generalize ps'.length=lp' at *;have HB:Hid (Below w.heap.size w ((w.alloc (.cells #[.string N,.int .i64 ma,.int .i64 mi,.string T,.slice pe le ke,.slice pi li ki,.slice pp lp kp] 31)).alloc (.cells #[.string N',.int .i64 ma',.int .i64 mi',.string T',.slice ye le' je,.slice yi li' ji,.slice yp lp' jp] 31))):=((Below.refl _ _).alloc (Nat.le_refl _) _).alloc (by simp) _
 go_enter Tryz.func98,Tryz.ntmps98
 go_wp2_with fail;refine (HA.out _ HB.out).mono ?_;rintro e w2 ⟨rfl,b2⟩;have B2:=HB.out.trans (b2.mono HB.out.size);clear HA HB b2;go_wp2;go_ret;exact ⟨rfl,B2⟩
theorem needs_any (l:List PV) (v:Value) (name:ByteArray) (w:World) (hrow:Zax w.heap.size w v l) (hfit:∀ x∈l,x.mod.fits) :
  Calls Tryz.prog 74 #[v,.string name] w fun e w'=>(∃ r ss,e=.returned (.tuple #[r,.int .i64 (Zbz (l.map PV.plc) name)])∧Zal 1 Zbn w'.heap.size w' r ss∧ZbW ZbC (l.map PV.plc) name ss)∧Below w.heap.size w w':=by
 have HC:=comeTo_any ZbC 124 (fun w x y=>enters_of Tryz.func124 (by kernel_rfl) rfl _ w) l v name w hrow hfit (fun x hx y hy W hb=>needs1_any x y W (((hrow.2 x hx).below hb).more hb.size) (((hrow.2 y hy).below hb).more hb.size));obtain ⟨⟨a,cap,rfl,_,_⟩,_⟩:=hrow;generalize Zbz (l.map PV.plc) name=R at *;generalize ZbW ZbC (l.map PV.plc) name=CR at *;generalize l.length=ll at *
 go_enter Tryz.func74,Tryz.ntmps74
 go_wp2_with fail;refine HC.mono ?_;rintro e w2 ⟨⟨r,ss,rfl,hr,hs⟩,b2⟩;have HR:Hid (Zal 1 Zbn w2.heap.size w2 r ss∧CR ss):=⟨hr,hs⟩;clear HC hr hs;go_wp2;go_ret2;exact ⟨⟨r,ss,rfl,HR.out.1,HR.out.2⟩,b2⟩
theorem users_any (l:List PV) (v:Value) (name:ByteArray) (w:World) (hrow:Zax w.heap.size w v l) (hfit:∀ x∈l,x.mod.fits) :
  Calls Tryz.prog 42 #[v,.string name] w fun e w'=>(∃ r ss,e=.returned (.tuple #[r,.int .i64 (Zbz (l.map PV.plc) name)])∧Zal 1 Zbn w'.heap.size w' r ss∧ZbW nxUse (l.map PV.plc) name ss)∧Below w.heap.size w w':=by
 have HC:=comeTo_any nxUse 98 (fun w x y=>enters_of Tryz.func98 (by kernel_rfl) rfl _ w) l v name w hrow hfit (fun x hx y hy W hb=>users1_any x y W (((hrow.2 x hx).below hb).more hb.size) (((hrow.2 y hy).below hb).more hb.size));obtain ⟨⟨a,cap,rfl,_,_⟩,_⟩:=hrow;generalize Zbz (l.map PV.plc) name=R at *;generalize ZbW nxUse (l.map PV.plc) name=CR at *;generalize l.length=ll at *
 go_enter Tryz.func42,Tryz.ntmps42
 go_wp2_with fail;refine HC.mono ?_;rintro e w2 ⟨⟨r,ss,rfl,hr,hs⟩,b2⟩;have HR:Hid (Zal 1 Zbn w2.heap.size w2 r ss∧CR ss):=⟨hr,hs⟩;clear HC hr hs;go_wp2;go_ret2;exact ⟨⟨r,ss,rfl,HR.out.1,HR.out.2⟩,b2⟩
end Go.Proofs.YtlpnfbpgnfappaaGreat
