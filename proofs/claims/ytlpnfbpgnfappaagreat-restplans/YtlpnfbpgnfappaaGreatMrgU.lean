/- Texts that are laid together. -/
import Derived.Test.YtlpnfbpgnfappaaGreatMrgT
import Derived.Lib.QuietBelow
import Derived.Test.YtlpnfbpgnfappaaGreatMrgF
import Derived.Test.YtlpnfbpgnfappaaGreatMrgL
import Derived.Test.YtlpnfbpgnfappaaGreatMrgA
import Derived.Test.YtlpnfbpgnfappaaGreatMrgI
import Derived.Test.YtlpnfbpgnfappaaGreatMrgC
import Derived.Test.YtlpnfbpgnfappaaGreatMrgG
import Derived.Deep.QuietTactic
import Derived.BigQuiet
import Derived.BigRegion
set_option maxHeartbeats 256000000
set_option maxRecDepth 100000

namespace Go.Proofs.YtlpnfbpgnfappaaGreat
open Go.RowKit Go.PlainAid
theorem addressesOf_any (K:Ker) (vk:Value) (l:List PV) (v:Value) (M:Mod) (vm:Value) (w:World) (hK:Zcd w.heap.size w vk K) (hrow:Zax w.heap.size w v l) (hM:Zbf w.heap.size w vm M) (h0:ZaQ K (l.map PV.plc)=0) (hm0:Zac M=0) :
  Calls Tryz.prog 159 #[vk,v,vm] w fun e w'=>(∃ r,e=.returned (.tuple #[r,.int .i64 (ZaF K (l.map PV.plc) [] M.imps).2])∧Zal 1 ZbF w'.heap.size w' r (ZaF K (l.map PV.plc) [] M.imps).1)∧Below w.heap.size w w':=by
 have HA:Hid (∀ (i:Imp) W,Below w.heap.size w W→Calls Tryz.prog 182 #[vk,v,.agg #[.string i.mod,.string i.name,.int .i64 i.major,.int .i64 i.minor]] W fun e w'=>e=.returned (.tuple #[.int .i64 (addrOf K (l.map PV.plc) i).1,.int .i64 (addrOf K (l.map PV.plc) i).2])∧Below W.heap.size W w'):=
  fun i W hb=>addressOf_any K vk l v i W ((hK.below hb).more hb.size) ((hrow.below hb).more hb.size) h0
 obtain ⟨vke,rfl,hE⟩:=hK;obtain ⟨pe,ke,rfl,_,_⟩:=hE;obtain ⟨⟨a,cap,rfl,_,_⟩,_⟩:=hrow;obtain ⟨me,mi',mp,rfl,hme,hmi,hmp⟩:=hM;obtain ⟨qe,je,rfl,_,_⟩:=hme;obtain ⟨qi,ji,rfl,_,hrowI⟩:=hmi;obtain ⟨qp,jp,rfl,_,_⟩:=hmp;have hm6:M.imps.length≤6:=(Zbl hm0).2.2.2.1;generalize hL:l.map PV.plc=L at *;have HAD:Hid (∀ acc x r,ZaF K L acc (x::r)=if (addrOf K L x).2≠0 then ([],(addrOf K L x).2) else ZaF K L (acc++[(addrOf K L x).1]) r):=fun _ _ _=>rfl;have HAN:Hid (∀ acc,ZaF K L acc []=(acc,0)):=fun _=>rfl;clear h0 hm0;generalize ZaF K L=AF at *;generalize addrOf K L=AO at *;obtain ⟨ma,mi,es⟩:=K;obtain ⟨N,xa,xi,T,xs,is,ps⟩:=M;dsimp only at *;clear hL L;generalize es.length=le at *;generalize xs.length=lx at *;generalize ps.length=lp at *;generalize l.length=ll at *;have B5:Below w.heap.size w ((w.alloc (.cells #[.int .i64 ma,.int .i64 mi,.slice pe le ke] 24)).alloc (.cells #[.string N,.int .i64 xa,.int .i64 xi,.string T,.slice qe lx je,.slice qi is.length ji,.slice qp lp jp] 31)):=((Below.refl _ _).alloc (Nat.le_refl _) _).alloc (by simp) _;have K5:Za ((w.alloc (.cells #[.int .i64 ma,.int .i64 mi,.slice pe le ke] 24)).alloc (.cells #[.string N,.int .i64 xa,.int .i64 xi,.string T,.slice qe lx je,.slice qi is.length ji,.slice qp lp jp] 31)) w.heap.size 24 #[.int .i64 ma,.int .i64 mi,.slice pe le ke]:=(Za.new w 24 #[.int .i64 ma,.int .i64 mi,.slice pe le ke]).kept (World.grownBy_alloc _ _ none) (by simp);have D5:Za ((w.alloc (.cells #[.int .i64 ma,.int .i64 mi,.slice pe le ke] 24)).alloc (.cells #[.string N,.int .i64 xa,.int .i64 xi,.string T,.slice qe lx je,.slice qi is.length ji,.slice qp lp jp] 31)) (w.heap.size+1) 31 #[.string N,.int .i64 xa,.int .i64 xi,.string T,.slice qe lx je,.slice qi is.length ji,.slice qp lp jp]:=by
  have:=Za.new (w.alloc (.cells #[.int .i64 ma,.int .i64 mi,.slice pe le ke] 24)) 31 #[.string N,.int .i64 xa,.int .i64 xi,.string T,.slice qe lx je,.slice qi is.length ji,.slice qp lp jp]
  rw [World.size_alloc] at this;exact this
 obtain ⟨ii,hii,hz0,hz1,hz2⟩:=infoInt_parts
 go_enter Tryz.func159,Tryz.ntmps159
 go_wp2_with fail;generalize (w.alloc (.cells #[.int .i64 ma,.int .i64 mi,.slice pe le ke] 24)).alloc (.cells #[.string N,.int .i64 xa,.int .i64 xi,.string T,.slice qe lx je,.slice qi is.length ji,.slice qp lp jp] 31)=w5 at B5 K5 D5 ⊢
 go_loopw [8,9] (fun f i wr=>∃ (k:Nat) (acc:List Int),k≤is.length∧i=.int .i64 k∧acc.length=k∧wr.ownsRow w5.heap.size 3 1 f acc.length (acc.flatMap intC)∧Hid (AF [] is=AF acc (is.drop k))∧Below w5.heap.size w5 wr) (fun _ i _=>is.length-(intOf i).toNat)
 case atStart=>exact ⟨0,[],Nat.zero_le _,rfl,rfl,⟨rfl,.inl ⟨rfl,rfl⟩⟩,by show AF [] is=AF [] (is.drop 0);rfl,Below.refl _ _⟩
 case round=>
  obtain ⟨k,acc,hk,rfl,hacc,hown,HCC,B⟩:=hrel;have B':Below w.heap.size w wr:=B5.trans (B.mono B5.size);have HLK:Hid (acc.length=k):=hacc;rw [hacc] at hown;clear hacc;obtain ⟨av,kv,rfl⟩:=Zae hown;have DB:=D5.below B D5.lt;have d5:=DB.cell 5;simp at d5
  by_cases hlt:k<is.length
  ·obtain ⟨x,hx⟩:∃ x,is[k]?=some x:=⟨_,List.getElem?_eq_getElem hlt⟩
   rcases hrowI with h | ⟨b,off,rfl,hbn,hcells⟩
   ·subst h;simp at hlt
   have c0:=(B'.cell (p:=⟨b,off+k*4+0,none⟩) hbn).trans (hcells k _ hx 0 (by omega));have c1:=(B'.cell (p:=⟨b,off+k*4+1,none⟩) hbn).trans (hcells k _ hx 1 (by omega));have c2:=(B'.cell (p:=⟨b,off+k*4+2,none⟩) hbn).trans (hcells k _ hx 2 (by omega));have c3:=(B'.cell (p:=⟨b,off+k*4+3,none⟩) hbn).trans (hcells k _ hx 3 (by omega));have HR:Hid (AF [] is=if (AO x).2≠0 then ([],(AO x).2) else AF (acc++[(AO x).1]) (is.drop (k+1))):=by
    show AF [] is=_
    rw [HCC.out,drop_at hx,HAD.out]
   have HAx:=HA.out x;obtain ⟨xm,xn,xma,xmi⟩:=x;dsimp only [Imp.cell] at c0 c1 c2 c3;dsimp only at HAx;rw [Nat.add_zero] at c0;generalize AO ⟨xm,xn,xma,xmi⟩=q at HR HAx;obtain ⟨p,q⟩:=q;dsimp only at HR HAx;have HAX:Hid (∀ d os,_):=fun d os=>HAx _ (B'.trans ((below_regrown wr d os).mono B'.size));clear HCC hcells hx HAx HAD HAN;have KB:=K5.below B K5.lt;have d0:=KB.cell 0;have d1:=KB.cell 1;have d2:=KB.cell 2;simp at d0 d1 d2;have r0:=cell_regrown c0;have r1:=cell_regrown c1;have r2:=cell_regrown c2;have r3:=cell_regrown c3;have s0:=cell_regrown d0;have s1:=cell_regrown d1;have s2:=cell_regrown d2;have s5:=cell_regrown d5;clear KB DB;go_wp2_with fail;refine wp_region_quiet_below (by kernel_rfl) (by kernel_rfl) ?_
   repeat (quiet_step ((go_at_call 182;go_must (exact Calls.regrown_of (HAX.out _ _)))))
   refine wpQuiet_nil ?_;intro w7 hw7;obtain ⟨⟨dq,osq⟩,hw7⟩:=hw7;have b7:=below_regrown wr dq osq;rw [← hw7] at b7;clear hw7;have O7:=own_below hown b7;have B7:=B'.trans (b7.mono B'.size);have E7:=B.trans (b7.mono B.size);clear b7 hown HAX c0 c1 c2 c3 d0 d1 d2 d5 r0 r1 r2 r3 s0 s1 s2 s5
   by_cases hq:q=0
   ·subst hq
    have HR':Hid (AF [] is=AF (acc++[p]) (is.drop (k+1))):=by
     show AF [] is=_
     rw [HR.out];rfl
    have hb5:w5.heap.size≤w7.heap.size:=E7.size;have ha7:k<7:=by omega
    clear HR;go_wp2_with (at_builtin;refine wpList_append_lies _ rfl _ _ _ rfl w5.heap.size 3 ii _ 1 8 Tryz.underlying64 hii hz0 hz1 hz2 rfl (by omega) (.slice av k kv) k (acc.flatMap intC) rfl (O7.alloc _) ⟨w7.heap.size,0,none⟩ 1 1 [.int .i64 p] rfl rfl (World.news_of_block (cs:=#[.int .i64 p]) (t:=3) (fr:=(0,0)) (Za.new w7 3 #[.int .i64 p])) (by simp [Value.oneCell']) (by omega) (by unfold maxLen;omega) (by omega) (by simp;omega) (w7.heap.size+1) (by simp) ?_;intro g gc w8 hown8 hgrow hat hltg);refine ⟨⟨k+1,acc++[p],by omega,by go_num,by rw [List.length_append,HLK.out];rfl,?_,HR'.out,?_⟩,by simp [intOf];omega⟩
    ·rw [List.length_append,List.flatMap_append,HLK.out]
     exact hown8
    ·exact (E7.alloc E7.size _).grown hgrow (by simp;omega) (fun j hj=>ZaP O7 j hj)
   ·have hq':(q != 0)=true:=by simpa using hq
    have HR':Hid (AF [] is=([],q)):=by
     show AF [] is=_
     rw [HR.out,if_pos hq]
    clear HR hq;go_wp2;go_ret2;exact ⟨⟨.slice none 0 0,by rw [HR'.out];rfl,by rw [HR'.out];exact ⟨none,0,rfl,by simp,.inl rfl⟩⟩,B7⟩
  ·obtain rfl:k=is.length:=by omega
   have HZ:Hid (AF [] is=(acc,0)):=by
    show AF [] is=(acc,0)
    rw [HCC.out,List.drop_length,HAN.out]
   go_wp2;go_ret2;exact ⟨⟨_,by rw [HZ.out];rfl,by rw [HZ.out];exact own_ints (by rw [HLK.out];exact hown) (by rw [HLK.out];omega)⟩,B'⟩
theorem idx_lt {α:Type} {p:α→Bool}:∀ (l:List α) (n k:Nat) (x:α),l[k]?=some x→p x=true→(decide (idxFrom p n l<((n+k:Nat):Int))=(l.take k).any p)
 | [],_,_,_,h,_=>by simp at h
 | y::l,n,0,x,h,hx=>by
  obtain rfl:y=x:=by simpa using h
  have hs:idxFrom p n (y::l)=if p y=true then (n:Int) else idxFrom p (n+1) l:=rfl;rw [hs,hx]
  simp
 | y::l,n,k+1,x,h,hx=>by
  have hs:idxFrom p n (y::l)=if p y=true then (n:Int) else idxFrom p (n+1) l:=rfl;rw [hs,List.take_succ_cons,List.any_cons]
  cases hy:p y
  ·have ih:=idx_lt l (n+1) k x (by simpa using h) hx
   rw [Bool.false_or,← ih,if_neg (by decide),show n+(k+1)=n+1+k by omega]
  ·rw [if_pos rfl,Bool.true_or]
   exact decide_eq_true (by omega)
theorem isTwice_any (l:List PV) (v:Value) (w:World) (hrow:Zal 8 PV.cell w.heap.size w v l) :
  Calls Tryz.prog 105 #[v] w fun e w'=>e=.returned (.bool (twiceFrom [] (l.map PV.plc)))∧Below w.heap.size w w':=by
 have HP:Hid (∀ W n,Below w.heap.size w W→Calls Tryz.prog 50 #[v,.string n] W fun e w'=>e=.returned (.int .i64 (idxFrom (fun x:PV=>x.mod.name == n) 0 l))∧Below W.heap.size W w'):=fun W n hb=>placeOf_any l v n W ((hrow.below hb).more hb.size);obtain ⟨a,cap,rfl,hz,hrow⟩:=hrow;have HC0:Hid (twiceFrom [] (l.map PV.plc)=twiceFrom ((l.take 0).map (·.mod.name)) ((l.drop 0).map PV.plc)):=(rfl:_=_);generalize twiceFrom [] (l.map PV.plc)=R at *
 go_enter Tryz.func105,Tryz.ntmps105
 go_wp2_with fail
 go_loopw [3] (fun i wr=>∃ (k:Nat),k≤l.length∧i=.int .i64 k∧Hid (R=twiceFrom ((l.take k).map (·.mod.name)) ((l.drop k).map PV.plc))∧Below w.heap.size w wr) (fun i _=>l.length-(intOf i).toNat)
 case atStart=>exact ⟨0,Nat.zero_le _,rfl,HC0.out,Below.refl _ _⟩
 case round=>
  obtain ⟨k,hk,rfl,HC,B⟩:=hrel;clear HC0
  by_cases hlt:k<l.length
  ·obtain ⟨x,hx⟩:∃ x,l[k]?=some x:=⟨_,List.getElem?_eq_getElem hlt⟩
   rcases hrow with h | ⟨b,off,rfl,hbn,hcells⟩
   ·subst h;simp at hlt
   have c0:=(B.cell (p:=⟨b,off+k*8+0,none⟩) hbn).trans (hcells k _ hx 0 (by omega));dsimp only [PV.cell] at c0;rw [Nat.add_zero] at c0;have hix:=idx_lt (p:=fun y:PV=>y.mod.name == x.mod.name) l 0 k x hx ((Go.MapKept.bytes_beq _ _).2 rfl);have htk:(l.take (k+1)).map (·.mod.name)=(l.take k).map (·.mod.name)++[x.mod.name]:=by rw [List.take_add_one,hx];simp
   have HR:Hid (R=(((l.take k).any fun y=>y.mod.name == x.mod.name) || twiceFrom ((l.take (k+1)).map (·.mod.name)) ((l.drop (k+1)).map PV.plc))):=by
    show R=_
    rw [HC.out,drop_at hx,htk];have hs:∀ met,twiceFrom met (x.plc::(l.drop (k+1)).map PV.plc)=((met.any fun y=>y == x.mod.name) || twiceFrom (met++[x.mod.name]) ((l.drop (k+1)).map PV.plc)):=fun _=>rfl;rw [List.map_cons,hs,List.any_map]
    rfl
   have HPX:Hid (Calls Tryz.prog 50 #[.slice (some ⟨b,off,none⟩) l.length cap,.string x.mod.name] wr fun e w'=>e=.returned (.int .i64 (idxFrom (fun y:PV=>y.mod.name == x.mod.name) 0 l))∧Below wr.heap.size wr w'):=HP.out wr x.mod.name B;rw [Nat.zero_add] at hix;clear hcells hx HC htk;generalize ((l.take k).any fun y=>y.mod.name == x.mod.name)=t at *;generalize idxFrom (fun y:PV=>y.mod.name == x.mod.name) 0 l=ix at *;generalize x.mod.name=xn at *;go_wp2_with fail;refine HPX.out.mono ?_;rintro e w2 ⟨rfl,b2⟩;have B2:=B.trans (b2.mono B.size);clear HPX b2 c0
   cases t
   ·have h1:¬ ix<(k:Int):=of_decide_eq_false hix
    have HR2:Hid (R=twiceFrom ((l.take (k+1)).map (·.mod.name)) ((l.drop (k+1)).map PV.plc)):=by
     show R=_
     rw [HR.out,Bool.false_or]
    clear HR;go_wp2;exact ⟨⟨k+1,by omega,by go_num,HR2.out,B2⟩,by simp [intOf];omega⟩
   ·have h1:ix<(k:Int):=of_decide_eq_true hix
    have HR2:Hid (R=true):=by
     show R=_
     rw [HR.out,Bool.true_or]
    clear HR;go_wp2;go_ret;exact ⟨by rw [HR2.out];rfl,B2⟩
  ·obtain rfl:k=l.length:=by omega
   have HZ:Hid (R=false):=by
    show R=false
    rw [HC.out,List.drop_length];rfl
   go_wp2;go_ret;exact ⟨by rw [HZ.out];rfl,B⟩
theorem power_lit (k:Nat) (p:Int) (hk:k≤32) (hp:(2:Int) ^ k=p) (w:World):Calls Tryz.prog 206 #[.int .i64 k] w fun e w'=>e=.returned (.int .i64 p)∧w'=w:=by
 have:=power_any k hk w
 rwa [hp] at this
theorem valueOf_any (kind sym add place:Int) (w:World) :
  Calls Tryz.prog 183 #[.int .i64 kind,.int .i64 sym,.int .i64 add,.int .i64 place] w fun e w'=>e=.returned (.tuple #[.int .i64 (ZbB kind sym add place),.int .i64 (Zb kind sym add place)])∧w'=w:=by
 rcases val_cases kind sym add place with ⟨h0,hE,hN⟩ | ⟨h0,hr,hE,hN⟩ | ⟨hr,key⟩
 ·rw [hE,hN]
  have HW:Hid (∀ w,Calls Tryz.prog 112 #[.int .i64 kind] w fun e w'=>e=.returned (.int .i64 0)∧w'=w):=fun w=>by
   have:=ZbI kind w
   rwa [h0] at this
  clear h0 hE hN
  go_enter Tryz.func183,Tryz.ntmps183
  go_wp2_with (go_at_call 112;refine (HW.out _).mono ?_;rintro e w' ⟨rfl,rfl⟩);go_ret2;exact ⟨rfl,rfl⟩
 ·rw [hE,hN]
  have HW:Hid (∀ w,Calls Tryz.prog 112 #[.int .i64 kind] w fun e w'=>e=.returned (.int .i64 (width kind))∧w'=w):=fun w=>ZbI kind w;have h0':(width kind == 0)=false:=beq_eq_false_iff_ne.2 h0;clear h0 hE hN;generalize width kind=wd at HW h0';unfold Zcn at hr
  cases h1:betw sym 0 65535
  ·clear hr
   go_enter Tryz.func183,Tryz.ntmps183
   go_wp2_with (first | (go_at_call 112;refine (HW.out _).mono ?_;rintro e w' ⟨rfl,rfl⟩) | (go_at_call 109;refine (Zaj _ _ _ _).mono ?_;rintro e w' ⟨rfl,rfl⟩));go_ret2;exact ⟨rfl,rfl⟩
  cases h2:betw place 0 65535
  ·clear hr
   go_enter Tryz.func183,Tryz.ntmps183
   go_wp2_with (first | (go_at_call 112;refine (HW.out _).mono ?_;rintro e w' ⟨rfl,rfl⟩) | (go_at_call 109;refine (Zaj _ _ _ _).mono ?_;rintro e w' ⟨rfl,rfl⟩));go_ret2;exact ⟨rfl,rfl⟩
  rw [h1,h2] at hr;have h3:betw add 0 65535=false:=by simpa using hr
  clear hr
  go_enter Tryz.func183,Tryz.ntmps183
  go_wp2_with (first | (go_at_call 112;refine (HW.out _).mono ?_;rintro e w' ⟨rfl,rfl⟩) | (go_at_call 109;refine (Zaj _ _ _ _).mono ?_;rintro e w' ⟨rfl,rfl⟩));go_ret2;exact ⟨rfl,rfl⟩
 ·obtain ⟨s0,s1,p0,p1,a0,a1⟩:=valRange_true hr
  have h1:betw sym 0 65535=true:=ZaL s0 s1;have h2:betw place 0 65535=true:=ZaL p0 p1;have h3:betw add 0 65535=true:=ZaL a0 a1;clear hr
  rcases key with ⟨rfl,hE,hN⟩ | ⟨rfl,hE,hN⟩ | ⟨rfl,hE,hN⟩ | ⟨rfl,hE,hN⟩ | ⟨rfl,hp,hE,hN⟩ | ⟨rfl,hp,hE,hN⟩
  all_goals rw [hE,hN];clear hE hN
  ·have HW:Hid (∀ w,Calls Tryz.prog 112 #[.int .i64 1] w fun e w'=>e=.returned (.int .i64 4)∧w'=w):=fun w=>ZbI 1 w
   have HP:Hid (∀ w,Calls Tryz.prog 206 #[.int .i64 32] w fun e w'=>e=.returned (.int .i64 4294967296)∧w'=w):=fun w=>power_lit 32 _ (by decide) (by decide) w;have HM:Hid (∀ w,Calls Tryz.prog 205 #[.int .i64 (sym+add),.int .i64 4294967296] w fun e w'=>e=.returned (.int .i64 (sym+add))∧w'=w):=fun w=>by
    have:=Zck (sym+add) 4294967296 (by decide) (by decide) w
    rwa [Int.emod_eq_of_lt (by omega) (by omega)] at this
   go_enter Tryz.func183,Tryz.ntmps183
   go_wp2_with (first | (go_at_call 112;refine (HW.out _).mono ?_;rintro e w' ⟨rfl,rfl⟩) | (go_at_call 109;refine (Zaj _ _ _ _).mono ?_;rintro e w' ⟨rfl,rfl⟩) | (go_at_call 206;refine (HP.out _).mono ?_;rintro e w' ⟨rfl,rfl⟩) | (go_at_call 205;refine (HM.out _).mono ?_;rintro e w' ⟨rfl,rfl⟩));go_ret2;exact ⟨rfl,rfl⟩
  ·have HW:Hid (∀ w,Calls Tryz.prog 112 #[.int .i64 2] w fun e w'=>e=.returned (.int .i64 4)∧w'=w):=fun w=>ZbI 2 w
   have HP:Hid (∀ w,Calls Tryz.prog 206 #[.int .i64 32] w fun e w'=>e=.returned (.int .i64 4294967296)∧w'=w):=fun w=>power_lit 32 _ (by decide) (by decide) w;have HM:Hid (∀ w,Calls Tryz.prog 205 #[.int .i64 (sym+add-place),.int .i64 4294967296] w fun e w'=>e=.returned (.int .i64 ((sym+add-place) % 4294967296))∧w'=w):=fun w=>Zck _ 4294967296 (by decide) (by decide) w;generalize (sym+add-place) % 4294967296=R at HM ⊢
   go_enter Tryz.func183,Tryz.ntmps183
   go_wp2_with (first | (go_at_call 112;refine (HW.out _).mono ?_;rintro e w' ⟨rfl,rfl⟩) | (go_at_call 109;refine (Zaj _ _ _ _).mono ?_;rintro e w' ⟨rfl,rfl⟩) | (go_at_call 206;refine (HP.out _).mono ?_;rintro e w' ⟨rfl,rfl⟩) | (go_at_call 205;refine (HM.out _).mono ?_;rintro e w' ⟨rfl,rfl⟩));go_ret2;exact ⟨rfl,rfl⟩
  ·have HW:Hid (∀ w,Calls Tryz.prog 112 #[.int .i64 3] w fun e w'=>e=.returned (.int .i64 2)∧w'=w):=fun w=>ZbI 3 w
   have HP:Hid (∀ w,Calls Tryz.prog 206 #[.int .i64 16] w fun e w'=>e=.returned (.int .i64 65536)∧w'=w):=fun w=>power_lit 16 _ (by decide) (by decide) w;have HM:Hid (∀ w,Calls Tryz.prog 205 #[.int .i64 ((sym+add) / 65536),.int .i64 65536] w fun e w'=>e=.returned (.int .i64 ((sym+add) / 65536))∧w'=w):=fun w=>by
    have:=Zck ((sym+add) / 65536) 65536 (by decide) (by decide) w
    rwa [Int.emod_eq_of_lt (by omega) (by omega)] at this
   go_enter Tryz.func183,Tryz.ntmps183
   go_wp2_with (first | (go_at_call 112;refine (HW.out _).mono ?_;rintro e w' ⟨rfl,rfl⟩) | (go_at_call 109;refine (Zaj _ _ _ _).mono ?_;rintro e w' ⟨rfl,rfl⟩) | (go_at_call 206;refine (HP.out _).mono ?_;rintro e w' ⟨rfl,rfl⟩) | (go_at_call 205;refine (HM.out _).mono ?_;rintro e w' ⟨rfl,rfl⟩));go_ret2;exact ⟨rfl,rfl⟩
  ·have HW:Hid (∀ w,Calls Tryz.prog 112 #[.int .i64 4] w fun e w'=>e=.returned (.int .i64 2)∧w'=w):=fun w=>ZbI 4 w
   have HP:Hid (∀ w,Calls Tryz.prog 206 #[.int .i64 16] w fun e w'=>e=.returned (.int .i64 65536)∧w'=w):=fun w=>power_lit 16 _ (by decide) (by decide) w;have HM:Hid (∀ w,Calls Tryz.prog 205 #[.int .i64 (sym+add),.int .i64 65536] w fun e w'=>e=.returned (.int .i64 ((sym+add) % 65536))∧w'=w):=fun w=>Zck _ 65536 (by decide) (by decide) w;generalize (sym+add) % 65536=R at HM ⊢
   go_enter Tryz.func183,Tryz.ntmps183
   go_wp2_with (first | (go_at_call 112;refine (HW.out _).mono ?_;rintro e w' ⟨rfl,rfl⟩) | (go_at_call 109;refine (Zaj _ _ _ _).mono ?_;rintro e w' ⟨rfl,rfl⟩) | (go_at_call 206;refine (HP.out _).mono ?_;rintro e w' ⟨rfl,rfl⟩) | (go_at_call 205;refine (HM.out _).mono ?_;rintro e w' ⟨rfl,rfl⟩));go_ret2;exact ⟨rfl,rfl⟩
  ·have HW:Hid (∀ w,Calls Tryz.prog 112 #[.int .i64 5] w fun e w'=>e=.returned (.int .i64 3)∧w'=w):=fun w=>ZbI 5 w
   have HM:Hid (∀ w,Calls Tryz.prog 205 #[.int .i64 (sym+add-place),.int .i64 2] w fun e w'=>e=.returned (.int .i64 1)∧w'=w):=fun w=>by
    have:=Zck (sym+add-place) 2 (by decide) (by decide) w
    rwa [hp] at this
   clear hp
   go_enter Tryz.func183,Tryz.ntmps183
   go_wp2_with (first | (go_at_call 112;refine (HW.out _).mono ?_;rintro e w' ⟨rfl,rfl⟩) | (go_at_call 109;refine (Zaj _ _ _ _).mono ?_;rintro e w' ⟨rfl,rfl⟩) | (go_at_call 205;refine (HM.out _).mono ?_;rintro e w' ⟨rfl,rfl⟩));go_ret2;exact ⟨rfl,rfl⟩
  ·have HW:Hid (∀ w,Calls Tryz.prog 112 #[.int .i64 5] w fun e w'=>e=.returned (.int .i64 3)∧w'=w):=fun w=>ZbI 5 w
   have HM:Hid (∀ w,Calls Tryz.prog 205 #[.int .i64 (sym+add-place),.int .i64 2] w fun e w'=>e=.returned (.int .i64 0)∧w'=w):=fun w=>by
    have:=Zck (sym+add-place) 2 (by decide) (by decide) w
    rwa [hp] at this
   have HP:Hid (∀ w,Calls Tryz.prog 206 #[.int .i64 24] w fun e w'=>e=.returned (.int .i64 16777216)∧w'=w):=fun w=>power_lit 24 _ (by decide) (by decide) w;have HM2:Hid (∀ w,Calls Tryz.prog 205 #[.int .i64 ((sym+add-place).tdiv 2),.int .i64 16777216] w fun e w'=>e=.returned (.int .i64 (((sym+add-place) / 2) % 16777216))∧w'=w):=fun w=>by
    have:=Zck ((sym+add-place).tdiv 2) 16777216 (by decide) (by decide) w
    rwa [tdiv2_even _ hp] at this ⊢
   have hb:betw (sym+add-place) (-16777216) 16777215=true:=ZaL (by omega) (by omega);generalize ((sym+add-place) / 2) % 16777216=R at HM2 ⊢;clear hp
   go_enter Tryz.func183,Tryz.ntmps183
   go_wp2_with (first | (go_at_call 112;refine (HW.out _).mono ?_;rintro e w' ⟨rfl,rfl⟩) | (go_at_call 109;refine (Zaj _ _ _ _).mono ?_;rintro e w' ⟨rfl,rfl⟩));refine (HM.out _).mono ?_;rintro e w1 ⟨rfl,rfl⟩;go_wp2_with (first | (go_at_call 109;refine (Zaj _ _ _ _).mono ?_;rintro e w' ⟨rfl,rfl⟩) | (go_at_call 206;refine (HP.out _).mono ?_;rintro e w' ⟨rfl,rfl⟩));refine (HM2.out _).mono ?_;rintro e w2 ⟨rfl,rfl⟩;go_wp2;go_ret2;exact ⟨rfl,rfl⟩
theorem joined_put (s:ByteArray) (a m:Nat) (n:Int) (h:a+m≤s.size):s.extract 0 a++ZbL n m++s.extract (a+m) s.size=putS s a m n:=by
 apply ByteArray.ext
 apply Array.toList_inj.1
 have e1:(putS s a m n).data.toList=Zcp s a n (List.range m):=by simp [putS]
 have hl:s.data.toList.length=s.size:=by simp
 rw [e1];have e2:(s.extract 0 a++ZbL n m++s.extract (a+m) s.size).data.toList=s.data.toList.take a++(List.range m).map (byteOf n)++s.data.toList.drop (a+m):=by
  simp only [ByteArray.data_append,ByteArray.data_extract,Array.toList_append,Array.toList_extract,ZbL,List.extract_eq_take_drop,List.drop_zero,Nat.sub_zero];rw [List.take_of_length_le (l:=List.drop (a+m) s.data.toList) (by rw [List.length_drop];omega)]
 rw [e2]
 apply List.ext_getElem?
 intro i;rw [putFold_at s a n m i h];have l1:(s.data.toList.take a).length=a:=by rw [List.length_take];omega
 by_cases c1:i<a
 ·rw [if_neg (by omega),List.append_assoc,List.getElem?_append_left (by omega),List.getElem?_take_of_lt c1]
 ·rw [List.append_assoc,List.getElem?_append_right (by omega),l1]
  by_cases c2:i<a+m
  ·rw [if_pos (by omega),List.getElem?_append_left (by simp;omega)]
   have hi:i-a<m:=by omega
   simp [hi]
  ·rw [if_neg (by omega),List.getElem?_append_right (by simp;omega),List.getElem?_drop]
   simp
   congr 1
   omega
theorem addr_cases (p:Pat) (len base:Int):(betw p.add 0 65535 && betw p.pos 0 (len-width p.kind) && betw base 0 65279)=false→betw p.add 0 65535=false∨betw p.add 0 65535=true∧betw p.pos 0 (len-width p.kind)=false∨betw p.add 0 65535=true∧betw p.pos 0 (len-width p.kind)=true∧betw base 0 65279=false:=by
 intro h
 cases h1:betw p.add 0 65535
 ·exact .inl rfl
 cases h2:betw p.pos 0 (len-width p.kind)
 ·exact .inr (.inl ⟨rfl,rfl⟩)
 ·rw [h1,h2] at h
  exact .inr (.inr ⟨rfl,rfl,by simpa using h⟩)
theorem applyOf_good (s E t:ByteArray) (K S D sym base n:Int) (a m:Nat) (w:World) (hs:s.size≤140737488351232) (hm0:1≤m) (hm:m≤4) (ha:a+m≤s.size) (hE:E.size≤4) (hT:s.extract 0 a++E++s.extract (a+m) s.size=t)
  (h1:betw D 0 65535=true) (h2:betw a 0 (s.size-m)=true) (h3:betw base 0 65279=true) (b0:0≤base) (b1:base≤65279)
  (HW:Hid (∀ w,Calls Tryz.prog 112 #[.int .i64 K] w fun e w'=>e=.returned (.int .i64 m)∧w'=w))
  (HV:Hid (∀ w,Calls Tryz.prog 183 #[.int .i64 K,.int .i64 sym,.int .i64 D,.int .i64 (base+a)] w fun e w'=>e=.returned (.tuple #[.int .i64 n,.int .i64 0])∧w'=w))
  (HB:Hid (∀ w,Calls Tryz.prog 184 #[.int .i64 n,.int .i64 m] w fun e w'=>e=.returned (.string E)∧Below w.heap.size w w')) :
  Calls Tryz.prog 160 #[.string s,.agg #[.int .i64 K,.int .i64 a,.int .i64 S,.int .i64 D],.int .i64 sym,.int .i64 base] w fun e w'=>e=.returned (.tuple #[.string t,.int .i64 0])∧Below w.heap.size w w':=by
 have i0:IntKind.i64.wrap ((a:Int)+m)=(a:Int)+m:=by rw [i64_is];unfold wrap64;omega
 have f0:(a:Int)≤s.size:=by omega
 have f1:(a:Int)+m≤s.size:=by omega
 have f2:0≤(a:Int)+m:=by omega
 have c1:¬ (9223372036854775807<min a s.size+E.size):=by omega
 have c2:¬ (9223372036854775807<min a s.size+E.size+(s.size-(a+m))):=by omega
 have f3:((a:Int)+m).toNat=a+m:=by omega
 have hne:((m:Int) == 0)=false:=beq_eq_false_iff_ne.2 (by omega)
 go_enter Tryz.func160,Tryz.ntmps160
 go_wp2_with (first | (go_at_call 112;refine (HW.out _).mono ?_;rintro e w' ⟨rfl,rfl⟩) | (go_at_call 109;refine (Zaj _ _ _ _).mono ?_;rintro e w' ⟨rfl,rfl⟩) | (go_at_call 183;refine (HV.out _).mono ?_;rintro e w' ⟨rfl,rfl⟩));have g1:(w.alloc (.cells #[.int .i64 K,.int .i64 a,.int .i64 S,.int .i64 D] 113)).cell? ⟨w.heap.size,1,none⟩=some (.int .i64 a):=by simp
 have B0:Below w.heap.size w (w.alloc (.cells #[.int .i64 K,.int .i64 a,.int .i64 S,.int .i64 D] 113)):=(Below.refl _ _).alloc (Nat.le_refl _) _;have z0:w.heap.size<(w.alloc (.cells #[.int .i64 K,.int .i64 a,.int .i64 S,.int .i64 D] 113)).heap.size:=by simp
 generalize w.alloc (.cells #[.int .i64 K,.int .i64 a,.int .i64 S,.int .i64 D] 113)=W1 at g1 B0 z0 ⊢;have k1:=cell_regrown g1;refine wp_region_quiet_below (by kernel_rfl) (by kernel_rfl) ?_
 repeat (quiet_step ((go_at_call 184;go_must (exact Calls.regrown_of (HB.out _)))))
 refine wpQuiet_nil ?_;intro _ hw';obtain ⟨⟨dq,osq⟩,hw''⟩:=hw';have B5:=B0.trans ((below_regrown W1 dq osq).mono B0.size);rw [← hw''] at B5;clear hw'';go_wp2;go_ret2;exact ⟨rfl,B5⟩
theorem applyOf_any (s:ByteArray) (p:Pat) (sym base:Int) (w:World) (hs:s.size≤140737488351232) :
  Calls Tryz.prog 160 #[.string s,.agg #[.int .i64 p.kind,.int .i64 p.pos,.int .i64 p.sym,.int .i64 p.add],.int .i64 sym,.int .i64 base] w fun e w'=>e=.returned (.tuple #[.string (Zbm s p sym base),.int .i64 (ZaJ s.size p sym base)])∧Below w.heap.size w w':=by
 have HW:Hid (∀ w,Calls Tryz.prog 112 #[.int .i64 p.kind] w fun e w'=>e=.returned (.int .i64 (width p.kind))∧w'=w):=fun w=>ZbI _ w;have HV:Hid (∀ w,Calls Tryz.prog 183 #[.int .i64 p.kind,.int .i64 sym,.int .i64 p.add,.int .i64 (base+p.pos)] w fun e w'=>e=.returned (.tuple #[.int .i64 (ZbB p.kind sym p.add (base+p.pos)),.int .i64 (Zb p.kind sym p.add (base+p.pos))])∧w'=w):=fun w=>valueOf_any _ _ _ _ w;have hB:=width_bd p.kind
 by_cases h0:width p.kind=0
 ·have e1:ZaJ s.size p sym base=7:=by rw [ZaJ,if_pos h0]
  have e2:Zbm s p sym base=⟨#[]⟩:=by rw [Zbm,e1,if_neg (by decide)]
  rw [e1,e2];rw [h0] at HW;clear e1 e2 h0 hB HV;obtain ⟨K,A,S,D⟩:=p;dsimp only at *
  go_enter Tryz.func160,Tryz.ntmps160
  go_wp2_with (go_at_call 112;refine (HW.out _).mono ?_;rintro e w' ⟨rfl,rfl⟩);go_ret2;exact ⟨rfl,(Below.refl _ _).alloc (Nat.le_refl _) _⟩
 have hne:(width p.kind == 0)=false:=beq_eq_false_iff_ne.2 h0
 cases hr:(betw p.add 0 65535 && betw p.pos 0 (s.size-width p.kind) && betw base 0 65279)
 ·have e1:ZaJ s.size p sym base=3:=by rw [ZaJ,if_neg h0,if_pos hr]
  have e2:Zbm s p sym base=⟨#[]⟩:=by rw [Zbm,e1,if_neg (by decide)]
  rw [e1,e2];have key:=addr_cases p s.size base hr;clear e1 e2 h0 HV hr;obtain ⟨K,A,S,D⟩:=p;dsimp only at *;generalize width K=wd at *
  rcases key with h1 | ⟨h1,h2⟩ | ⟨h1,h2,h3⟩
  all_goals
   go_enter Tryz.func160,Tryz.ntmps160
   go_wp2_with (first | (go_at_call 112;refine (HW.out _).mono ?_;rintro e w' ⟨rfl,rfl⟩) | (go_at_call 109;refine (Zaj _ _ _ _).mono ?_;rintro e w' ⟨rfl,rfl⟩));go_ret2;exact ⟨rfl,(Below.refl _ _).alloc (Nat.le_refl _) _⟩
 have hr':=hr;simp only [Bool.and_eq_true] at hr';obtain ⟨⟨h1,h2⟩,h3⟩:=hr';have q1:=Zcv.1 h2;have q2:=Zcv.1 h3;have e1:ZaJ s.size p sym base=Zb p.kind sym p.add (base+p.pos):=by rw [ZaJ,if_neg h0,hr,if_neg (by decide)]
 by_cases hv:Zb p.kind sym p.add (base+p.pos)=0
 ·have e2:Zbm s p sym base=putS s p.pos.toNat (width p.kind).toNat (ZbB p.kind sym p.add (base+p.pos)):=by rw [Zbm,e1,hv,if_pos rfl]
  rw [e1,hv,e2];rw [hv] at HV;obtain ⟨m,em⟩:=Int.eq_ofNat_of_zero_le hB.1;obtain ⟨K,A,S,D⟩:=p;dsimp only at *;obtain ⟨a,rfl⟩:=Int.eq_ofNat_of_zero_le q1.1;rw [em] at HW h2 q1 hB h0 ⊢;rw [Int.toNat_natCast,Int.toNat_natCast];have ha:a+m≤s.size:=by omega
  exact applyOf_good s (ZbL (ZbB K sym D (base+a)) m) _ K S D sym base (ZbB K sym D (base+a)) a m w hs (by omega) (by omega) ha (by rw [bytesN_size];omega) (joined_put s a m _ ha) h1 h2 h3 q2.1 q2.2 HW HV (fun w=>bytesOf_any _ m w (by omega))
 ·have e2:Zbm s p sym base=⟨#[]⟩:=by rw [Zbm,e1,if_neg hv]
  rw [e1,e2];have hv':(Zb p.kind sym p.add (base+p.pos) != 0)=true:=by simpa using hv
  clear e1 e2 h0 hr hv;obtain ⟨K,A,S,D⟩:=p;dsimp only at *;generalize Zb K sym D (base+A)=ve at *;generalize ZbB K sym D (base+A)=vn at *;generalize width K=wd at *
  go_enter Tryz.func160,Tryz.ntmps160
  go_wp2_with (first | (go_at_call 112;refine (HW.out _).mono ?_;rintro e w' ⟨rfl,rfl⟩) | (go_at_call 109;refine (Zaj _ _ _ _).mono ?_;rintro e w' ⟨rfl,rfl⟩) | (go_at_call 183;refine (HV.out _).mono ?_;rintro e w' ⟨rfl,rfl⟩));go_ret2;exact ⟨rfl,(Below.refl _ _).alloc (Nat.le_refl _) _⟩
def sizeV:Value→Nat
 | .string s=>s.size
 | _=>0
theorem checkLink_any (K:Ker) (vk:Value) (l:List PV) (v:Value) (w:World) (hK:Zcd w.heap.size w vk K) (hf:K.fits) (hrow:Zax w.heap.size w v l) (hfit:∀ x∈l,x.mod.fits) :
  Calls Tryz.prog 46 #[vk,v] w fun e w'=>e=.returned (.int .i64 (ZaA K (l.map PV.plc)))∧Below w.heap.size w w':=by
 have HC:Hid (∀ W,Below w.heap.size w W→Calls Tryz.prog 103 #[vk] W fun e w'=>e=.returned (.int .i64 (ZaS K))∧Below W.heap.size W w'):=fun W hb=>checkKernel_any K vk W ((hK.below hb).more hb.size) hf;have HF:Hid (∀ W,Below w.heap.size w W→Calls Tryz.prog 104 #[v] W fun e w'=>e=.returned (.int .i64 (Zas (l.map PV.plc)))∧Below W.heap.size W w'):=fun W hb=>checkRegions_any l v W ((hrow.below hb).more hb.size) hfit;have HO:Hid (∀ W,Below w.heap.size w W→Calls Tryz.prog 105 #[v] W fun e w'=>e=.returned (.bool (twiceFrom [] (l.map PV.plc)))∧Below W.heap.size W w'):=fun W hb=>isTwice_any l v W (((hrow.below hb).more hb.size).1);have key:=chkLink_cases K (l.map PV.plc);generalize ZaA K (l.map PV.plc)=cl at *;obtain ⟨vke,rfl,hE⟩:=hK;obtain ⟨qe,je,rfl,_,_⟩:=hE;obtain ⟨⟨a,cap,rfl,_,_⟩,_⟩:=hrow;generalize ZaS K=ck at *;generalize l.map PV.plc=L at *;generalize Zas L=cr at *;generalize twiceFrom [] L=tw at *;obtain ⟨ma,mi,ks⟩:=K;dsimp only at *;clear hf hfit;generalize ks.length=lk at *;generalize l.length=ll at *;have B1:Below w.heap.size w (w.alloc (.cells #[.int .i64 ma,.int .i64 mi,.slice qe lk je] 24)):=(Below.refl _ _).alloc (Nat.le_refl _) _
 go_enter Tryz.func46,Tryz.ntmps46
 go_wp2_with fail;refine (HC.out _ B1).mono ?_;rintro e w2 ⟨rfl,b2⟩;have B2:=B1.trans (b2.mono B1.size);clear b2 HC B1
 rcases key with ⟨h1,rfl⟩ | ⟨rfl,h2,rfl⟩ | ⟨rfl,rfl,rfl,rfl⟩ | ⟨rfl,rfl,rfl,rfl⟩
 ·have h1':(cl == 0)=false:=by simpa using h1
  clear h1;go_wp2;go_ret;exact ⟨rfl,B2⟩
 all_goals
  go_wp2_with fail;refine (HF.out _ B2).mono ?_;rintro e w3 ⟨rfl,b3⟩;have B3:=B2.trans (b3.mono B2.size);clear b3 HF B2
 ·have h2':(cl == 0)=false:=by simpa using h2
  clear h2;go_wp2;go_ret;exact ⟨rfl,B3⟩
 all_goals
  go_wp2_with fail;refine (HO.out _ B3).mono ?_;rintro e w4 ⟨rfl,b4⟩;have B4:=B3.trans (b4.mono B3.size);go_wp2;go_ret;exact ⟨rfl,B4⟩
theorem rfImage_any (K:Ker) (vk:Value) (l:List PV) (v:Value) (j:Nat) (x:PV) (w:World) (hK:Zcd w.heap.size w vk K) (hrow:Zax w.heap.size w v l) (h0:ZaA K (l.map PV.plc)=0) (hx:l[j]?=some x) :
  Calls Tryz.prog 107 #[vk,v,.int .i64 j] w fun e w'=>e=.returned (.tuple #[.string (ZaY K (l.map PV.plc) x.plc).1,.int .i64 (ZaY K (l.map PV.plc) x.plc).2])∧Below w.heap.size w w':=by
 have hmem:=List.mem_of_getElem? hx;obtain ⟨hm0,f0,f1,hz1⟩:=link_at h0 hmem;have hcf:=link_find h0;have hxa:=hrow.2 x hmem;have HA:Hid (∀ W,Below w.heap.size w W→Calls Tryz.prog 159 #[vk,v,x.modV] W fun e w'=>(∃ r,e=.returned (.tuple #[r,.int .i64 (ZaK K (l.map PV.plc) x.mod).2])∧Zal 1 ZbF w'.heap.size w' r (ZaK K (l.map PV.plc) x.mod).1)∧Below W.heap.size W w'):=fun W hb=>by
  have:=addressesOf_any K vk l v x.mod x.modV W ((hK.below hb).more hb.size) ((hrow.below hb).more hb.size) (((hxa.below hb).more hb.size).isMod) hcf hm0
  rcases allRes_cases K (l.map PV.plc) x.mod with ⟨h,_⟩ | ⟨_,h,_⟩ | ⟨_,_,e⟩
  ·exact absurd hcf h
  ·exact absurd hm0 h
  ·rw [e];exact this
 have HL:Hid ((ZaK K (l.map PV.plc) x.mod).2=0→(ZaK K (l.map PV.plc) x.mod).1.length=x.mod.imps.length):=fun h=>allRes_length h;have key:=imgRes_ln K (l.map PV.plc) x.plc
 change _=if (ZaK K (l.map PV.plc) x.mod).2≠0 then (⟨#[]⟩,(ZaK K (l.map PV.plc) x.mod).2) else lnRes (ZaK K (l.map PV.plc) x.mod).1 x.plc at key
 have HLR:Hid (∀ ads,lnRes ads x.plc=if (patd ads (4096+x.first*64) x.mod.text x.mod.pats).2≠0 then (⟨#[]⟩,(patd ads (4096+x.first*64) x.mod.text x.mod.pats).2) else (Zaz (patd ads (4096+x.first*64) x.mod.text x.mod.pats).1 (64*szM x.mod),0)):=fun _=>rfl;generalize ZaY K (l.map PV.plc) x.plc=R at *;generalize ZaK K (l.map PV.plc) x.mod=ar at *;have hps:=pats_of hm0;have hT:x.mod.text.size≤256:=(Zbl hm0).2.1;have h12:x.mod.pats.length≤12:=(Zbl hm0).2.2.2.2.1;have h6:x.mod.imps.length≤6:=(Zbl hm0).2.2.2.1;have hzT:Hid (szM x.mod=(x.mod.text.size+63) / 64∧szM x.mod≤4):=(⟨rfl,(Zco hm0).2.1⟩:szM x.mod=(x.mod.text.size+63) / 64∧szM x.mod≤4);generalize szM x.mod=zz at *;obtain ⟨vke,rfl,hE⟩:=hK;obtain ⟨qe,je,rfl,_,_⟩:=hE;obtain ⟨⟨a,cap,rfl,hmax,hrow⟩,_⟩:=hrow;have hlt:(j:Int)<(l.length:Int):=by have:=(List.getElem?_eq_some_iff.1 hx).1;omega
 rcases hrow with h | ⟨b,off,rfl,hbn,hcells⟩
 ·subst h;simp at hx
 have c0:=hcells j _ hx 0 (by omega);have c1:=hcells j _ hx 1 (by omega);have c2:=hcells j _ hx 2 (by omega);have c3:=hcells j _ hx 3 (by omega);have c4:=hcells j _ hx 4 (by omega);have c5:=hcells j _ hx 5 (by omega);have c6:=hcells j _ hx 6 (by omega);have c7:=hcells j _ hx 7 (by omega);obtain ⟨⟨pe,ke,e4,_⟩,⟨pi,ki,e5,_⟩,⟨pp,kp,e6,_,hP⟩⟩:=hxa;obtain ⟨ma,mi,ks⟩:=K;clear hcells hx hm0 hcf h0 hmem;obtain ⟨⟨N,xa,xi,T,es,is,ps⟩,ve,vi,vp,fi⟩:=x;dsimp only [PV.modV,PV.plc] at *;subst e4 e5 e6;dsimp only [PV.cell] at c0 c1 c2 c3 c4 c5 c6 c7;rw [Nat.add_zero] at c0;generalize es.length=le at *;generalize hli:is.length=li at *;generalize ks.length=lk at *;have i1:IntKind.i64.wrap (64*fi)=64*fi:=by rw [i64_is];unfold wrap64;omega
 have i2:IntKind.i64.wrap (4096+64*fi)=4096+fi*64:=by rw [i64_is];unfold wrap64;omega
 generalize hbg:4096+fi*64=bg at *;generalize hll:l.length=ll at *;obtain ⟨ads,er⟩:=ar;dsimp only at *;have B0:Below w.heap.size w (w.alloc (.cells #[.int .i64 ma,.int .i64 mi,.slice qe lk je] 24)):=(Below.refl _ _).alloc (Nat.le_refl _) _;have g0:=(B0.cell (p:=⟨b,off+j*8,none⟩) hbn).trans c0;have g1:=(B0.cell (p:=⟨b,off+j*8+1,none⟩) hbn).trans c1;have g2:=(B0.cell (p:=⟨b,off+j*8+2,none⟩) hbn).trans c2;have g3:=(B0.cell (p:=⟨b,off+j*8+3,none⟩) hbn).trans c3;have g4:=(B0.cell (p:=⟨b,off+j*8+4,none⟩) hbn).trans c4;have g5:=(B0.cell (p:=⟨b,off+j*8+5,none⟩) hbn).trans c5;have g6:=(B0.cell (p:=⟨b,off+j*8+6,none⟩) hbn).trans c6;have HB1:Hid (Below w.heap.size w ((w.alloc (.cells #[.int .i64 ma,.int .i64 mi,.slice qe lk je] 24)).alloc (.cells #[.string N,.int .i64 xa,.int .i64 xi,.string T,.slice pe le ke,.slice pi li ki,.slice pp ps.length kp] 31))):=B0.alloc (by simp) _;have HC1:Hid (Za ((w.alloc (.cells #[.int .i64 ma,.int .i64 mi,.slice qe lk je] 24)).alloc (.cells #[.string N,.int .i64 xa,.int .i64 xi,.string T,.slice pe le ke,.slice pi li ki,.slice pp ps.length kp] 31)) (w.heap.size+1) 31 #[.string N,.int .i64 xa,.int .i64 xi,.string T,.slice pe le ke,.slice pi li ki,.slice pp ps.length kp]):=by
  have:=Za.new (w.alloc (.cells #[.int .i64 ma,.int .i64 mi,.slice qe lk je] 24)) 31 #[.string N,.int .i64 xa,.int .i64 xi,.string T,.slice pe le ke,.slice pi li ki,.slice pp ps.length kp]
  rw [World.size_alloc] at this;exact this
 clear c0 c1 c2 c3 c4 c5 c6
 go_enter Tryz.func107,Tryz.ntmps107
 go_wp2_with fail;refine (HA.out _ HB1.out).mono ?_;rintro e w2 ⟨⟨r,rfl,hr⟩,b2⟩;have B2:=HB1.out.trans (b2.mono HB1.out.size);have C2:=HC1.out.below b2 HC1.out.lt;have d7:=(B2.cell (p:=⟨b,off+j*8+7,none⟩) hbn).trans c7;clear b2 HB1 HC1 HA B0 g0 g1 g2 g3 g4 g5 g6 c7;obtain ⟨ra,rk,rfl,_,hA⟩:=hr
 by_cases hq:er=0
 ·subst hq
  have hal:=HL.out rfl;rw [← hal] at h6 hps;have HR:Hid (R=if (patd ads bg T ps).2≠0 then (⟨#[]⟩,(patd ads bg T ps).2) else (Zaz (patd ads bg T ps).1 (64*zz),0)):=by
   show R=_
   rw [key,if_neg (by simp),HLR.out]
  have HPZ:Hid ((patd ads bg T ps).2=0→(patd ads bg T ps).1.size=T.size):=fun h=>patd_size h;clear key HL HLR hal hli;have HPN:Hid (∀ s,patd ads bg s []=(s,0)):=fun _=>rfl;have HPC:Hid (∀ s p r,patd ads bg s (p::r)=if ZaJ s.size p (symOf ads bg p) bg≠0 then (⟨#[]⟩,ZaJ s.size p (symOf ads bg p) bg) else patd ads bg (Zbm s p (symOf ads bg p) bg) r):=fun _ _ _=>rfl;generalize patd ads bg=PD at *;have e3:=C2.cell 3;have hc2:=C2.lt;simp at e3;go_wp2_with fail
  go_loopw [10,12,13] (fun ee f i wr=>∃ (k:Nat) (S:ByteArray),k≤ps.length∧ee=.int .i64 0∧i=.int .i64 k∧f=.string S∧Hid (S.size=T.size)∧Hid (PD T ps=PD S (ps.drop k))∧Below w2.heap.size w2 wr) (fun _ _ i _=>ps.length-(intOf i).toNat)
  case atStart=>exact ⟨0,T,Nat.zero_le _,rfl,rfl,rfl,(rfl:T.size=T.size),(by show PD T ps=PD T (ps.drop 0);rfl),Below.refl _ _⟩
  case round=>
   obtain ⟨k,S,hk,rfl,rfl,rfl,HSZ,HCC,B⟩:=hrel;have B':Below w.heap.size w wr:=B2.trans (B.mono B2.size);have CB:=C2.below B C2.lt;have d6:=CB.cell 6;have hwl:w.heap.size+1<wr.heap.size:=CB.lt;simp at d6;clear CB e3 d7
   by_cases hlt2:k<ps.length
   ·obtain ⟨x,hx⟩:∃ x,ps[k]?=some x:=⟨_,List.getElem?_eq_getElem hlt2⟩
    rcases hP with h | ⟨bp,offp,rfl,hbp,hcp⟩
    ·subst h;simp at hlt2
    have c0:=(B'.cell (p:=⟨bp,offp+k*4+0,none⟩) hbp).trans (hcp k _ hx 0 (by omega));have c1:=(B'.cell (p:=⟨bp,offp+k*4+1,none⟩) hbp).trans (hcp k _ hx 1 (by omega));have c2:=(B'.cell (p:=⟨bp,offp+k*4+2,none⟩) hbp).trans (hcp k _ hx 2 (by omega));have c3:=(B'.cell (p:=⟨bp,offp+k*4+3,none⟩) hbp).trans (hcp k _ hx 3 (by omega));have HRX:Hid (PD T ps=if ZaJ S.size x (symOf ads bg x) bg≠0 then (⟨#[]⟩,ZaJ S.size x (symOf ads bg x) bg) else PD (Zbm S x (symOf ads bg x) bg) (ps.drop (k+1))):=by
     show PD T ps=_
     rw [HCC.out,drop_at hx,HPC.out]
    have HAX:Hid (∀ sy W,Calls Tryz.prog 160 #[.string S,.agg #[.int .i64 x.kind,.int .i64 x.pos,.int .i64 x.sym,.int .i64 x.add],.int .i64 sy,.int .i64 bg] W fun e w'=>e=.returned (.tuple #[.string (Zbm S x sy bg),.int .i64 (ZaJ S.size x sy bg)])∧Below W.heap.size W w'):=fun sy W=>applyOf_any S x sy bg W (by rw [HSZ.out];omega);have HSS:Hid (∀ sy,ZaJ S.size x sy bg=0→(Zbm S x sy bg).size=T.size):=fun sy h=>by rw [appStr_size h,HSZ.out]
    obtain ⟨hs1,hs2⟩:=hps x (List.mem_of_getElem? hx);have HSY:Hid (∃ sy:Int,symOf ads bg x=sy∧((0≤x.sym∧∃ n:Nat,x.sym=n∧ads[n]?=some sy)∨(x.sym<0∧sy=bg))):=by
     refine ⟨_,rfl,?_⟩;unfold symOf
     by_cases h0:0≤x.sym
     ·refine .inl ⟨h0,x.sym.toNat,by omega,?_⟩
      rw [if_pos h0,List.getElem?_eq_getElem (by omega)]
      rfl
     ·exact .inr ⟨by omega,by rw [if_neg h0]⟩
    obtain ⟨sy,hsy,hcase⟩:=HSY.out;have HR':Hid (PD T ps=if ZaJ S.size x sy bg≠0 then (⟨#[]⟩,ZaJ S.size x sy bg) else PD (Zbm S x sy bg) (ps.drop (k+1))):=by
     show PD T ps=_
     rw [HRX.out,hsy]
    have HAX':Hid (∀ W,Calls Tryz.prog 160 #[.string S,.agg #[.int .i64 x.kind,.int .i64 x.pos,.int .i64 x.sym,.int .i64 x.add],.int .i64 sy,.int .i64 bg] W fun e w'=>e=.returned (.tuple #[.string (Zbm S x sy bg),.int .i64 (ZaJ S.size x sy bg)])∧Below W.heap.size W w'):=HAX.out sy;have HSS':Hid (ZaJ S.size x sy bg=0→(Zbm S x sy bg).size=T.size):=HSS.out sy;clear HRX HAX HSS HSY hsy HCC hcp hps HSZ HPN HPC;generalize ZaJ S.size x sy bg=er at *;generalize Zbm S x sy bg=S' at *;obtain ⟨xk,xp,xs,xa⟩:=x;dsimp only [Pat.cell] at c0 c1 c2 c3;dsimp only at *;rw [Nat.add_zero] at c0;clear HPZ;have hk2:(k:Int)<(ps.length:Int):=by omega
    rcases hcase with ⟨h0,n,rfl,hn⟩ | ⟨h0,rfl⟩
    ·rcases hA with h | ⟨ba,offa,rfl,hba,hca⟩
     ·subst h;simp at hn
     have hnl:(n:Int)<(ads.length:Int):=by omega
     have d9:=(B.cell (p:=⟨ba,offa+n*1+0,none⟩) hba).trans (hca n _ hn 0 (by omega));dsimp only [ZbF] at d9;rw [Nat.add_zero,Nat.mul_one] at d9;have hba2:ba<wr.heap.size:=Nat.lt_of_lt_of_le hba B.size;clear hca hn;go_wp2_with fail;refine (HAX'.out _).mono ?_;rintro e w7 ⟨rfl,b7⟩;have E7:=B.trans (b7.mono B.size);have F7:=B2.trans (E7.mono B2.size)
     by_cases hq:er=0
     ·subst hq
      have HR2:Hid (PD T ps=PD S' (ps.drop (k+1))):=by
       show PD T ps=_
       rw [HR'.out];rfl
      have HS2:Hid (S'.size=T.size):=HSS'.out rfl;clear HR' HSS';go_wp2;exact ⟨⟨k+1,S',by omega,rfl,by go_num,rfl,HS2,HR2,E7⟩,by simp [intOf];omega⟩
     ·have hq':(er != 0)=true:=by simpa using hq
      have HR2:Hid (R=(⟨#[]⟩,er)):=by
       show R=_
       have h1:PD T ps=(⟨#[]⟩,er):=by rw [HR'.out,if_pos hq]
       rw [HR.out,h1,if_pos hq]
      clear HR' HSS' hq HR;go_wp2;go_ret2;exact ⟨by rw [HR2.out];rfl,F7⟩
    ·clear hA
     go_wp2_with fail;refine (HAX'.out _).mono ?_;rintro e w7 ⟨rfl,b7⟩;have E7:=B.trans (b7.mono B.size);have F7:=B2.trans (E7.mono B2.size)
     by_cases hq:er=0
     ·subst hq
      have HR2:Hid (PD T ps=PD S' (ps.drop (k+1))):=by
       show PD T ps=_
       rw [HR'.out];rfl
      have HS2:Hid (S'.size=T.size):=HSS'.out rfl;clear HR' HSS';go_wp2;exact ⟨⟨k+1,S',by omega,rfl,by go_num,rfl,HS2,HR2,E7⟩,by simp [intOf];omega⟩
     ·have hq':(er != 0)=true:=by simpa using hq
      have HR2:Hid (R=(⟨#[]⟩,er)):=by
       show R=_
       have h1:PD T ps=(⟨#[]⟩,er):=by rw [HR'.out,if_pos hq]
       rw [HR.out,h1,if_pos hq]
      clear HR' HSS' hq HR;go_wp2;go_ret2;exact ⟨by rw [HR2.out];rfl,F7⟩
   ·obtain rfl:k=ps.length:=by omega
    have hZ:PD T ps=(S,0):=by rw [HCC.out,List.drop_length,HPN.out]
    obtain ⟨F,HFF⟩:∃ F,Hid (Zaz S (64*zz)=F):=⟨Zaz S (64*zz),(rfl:Zaz S (64*zz)=Zaz S (64*zz))⟩;have HR2:Hid (R=(F,0)):=by
     show R=_
     rw [HR.out,hZ,if_neg (by simp),← HFF.out]
    clear HR HPZ HPN HPC hA hP hps;go_wp2_with fail
    go_loopw [12] (fun f wi=>∃ (S2:ByteArray),f=.string S2∧Hid (S2.size≤64*zz∧64*zz<S2.size+64∧Zaz S2 (64*zz)=F)∧Below wr.heap.size wr wi) (fun f _=>64*zz-sizeV f)
    case atStart=>exact ⟨S,rfl,(by have:=hzT.out;have:=HSZ.out;exact ⟨by omega,by omega,HFF.out⟩),Below.refl _ _⟩
    case round=>
     obtain ⟨S2,rfl,HS2,BI⟩:=hrel;have BW:=B'.trans (BI.mono B'.size);obtain ⟨a1,a2,a3⟩:=HS2.out;have hz4:=hzT.out.2;have ht:((S2.size:Int).tmod 64)=((S2.size % 64:Nat):Int):=by rw [Int.tmod_eq_emod_of_nonneg (by omega)];omega
     by_cases hS:S2.size=64*zz
     ·have hm:S2.size % 64=0:=by omega
      rw [hm] at ht;have hFS:F=S2:=by rw [← a3,fillTo_done (by omega)]
      have HFS:Hid (F=S2):=hFS;clear hm HS2 a3 hFS;go_wp2;go_ret2;exact ⟨by rw [HR2.out,HFS.out];rfl,BW⟩
     ·have hm:0<((S2.size % 64:Nat):Int):=by omega
      have hm2:((S2.size % 64:Nat):Int)<64:=by omega
      have HS3:Hid ((S2++⟨#[255]⟩).size≤64*zz∧64*zz<(S2++⟨#[255]⟩).size+64∧Zaz (S2++⟨#[255]⟩) (64*zz)=F):=by
       have h1:(S2++⟨#[255]⟩).size=S2.size+1:=by rw [ByteArray.size_append];rfl
       exact ⟨by omega,by omega,by rw [fillTo_step (by omega),a3]⟩
      have hbig:¬ (9223372036854775807<S2.size+ByteArray.size ⟨#[255]⟩):=by
       have:ByteArray.size ⟨#[255]⟩=1:=rfl
       omega
      generalize ((S2.size % 64:Nat):Int)=q at ht hm hm2;clear HS2 a3;go_wp2;refine ⟨⟨S2++⟨#[255]⟩,rfl,HS3,BI⟩,?_⟩;have h1:(S2++⟨#[255]⟩).size=S2.size+1:=by rw [ByteArray.size_append];rfl
      show 64*zz-(S2++⟨#[255]⟩).size<64*zz-S2.size
      omega
 ·have HR:Hid (R=(⟨#[]⟩,er)):=by
   show R=_
   rw [key,if_pos hq]
  have hq':(er != 0)=true:=by simpa using hq
  clear key HL hq HLR;go_wp2;go_ret2;exact ⟨by rw [HR.out];rfl,B2⟩
theorem rfArea_any (K:Ker) (vk:Value) (l:List PV) (v:Value) (w:World) (hK:Zcd w.heap.size w vk K) (hrow:Zax w.heap.size w v l) (h0:ZaA K (l.map PV.plc)=0) :
  Calls Tryz.prog 48 #[vk,v] w fun e w'=>e=.returned (.tuple #[.string (ZaM K (l.map PV.plc) ⟨#[]⟩ (l.map PV.plc)).1,.int .i64 (ZaM K (l.map PV.plc) ⟨#[]⟩ (l.map PV.plc)).2])∧Below w.heap.size w w':=by
 have HM:Hid (∀ (j:Nat) x,l[j]?=some x→∀ W,Below w.heap.size w W→Calls Tryz.prog 107 #[vk,v,.int .i64 j] W fun e w'=>e=.returned (.tuple #[.string (ZaY K (l.map PV.plc) x.plc).1,.int .i64 (ZaY K (l.map PV.plc) x.plc).2])∧Below W.heap.size W w'):=fun j x hx W hb=>
  rfImage_any K vk l v j x W ((hK.below hb).more hb.size) ((hrow.below hb).more hb.size) h0 hx
 have HO2:Hid (okPl 0 (l.map PV.plc)):=(ZaO.1 (Zbe h0).2.1).2.2;have h8:l.length≤8:=by simpa using (ZaO.1 (Zbe h0).2.1).1
 have HIS:Hid (∀ p,(ZaY K (l.map PV.plc) p).2=0→(ZaY K (l.map PV.plc) p).1.size=64*szM p.mod):=fun p h=>imgRes_size h;clear h0;obtain ⟨vke,rfl,hE⟩:=hK;obtain ⟨qe,je,rfl,_,_⟩:=hE;obtain ⟨⟨a,cap,rfl,hmax,hrow⟩,_⟩:=hrow;have HAC:Hid (∀ s p r,ZaM K (l.map PV.plc) s (p::r)=if (ZaY K (l.map PV.plc) p).2≠0 then (⟨#[]⟩,(ZaY K (l.map PV.plc) p).2) else ZaM K (l.map PV.plc) (Zaz s (64*p.first.toNat)++(ZaY K (l.map PV.plc) p).1) r):=fun _ _ _=>rfl;have HAN:Hid (∀ s,ZaM K (l.map PV.plc) s []=(Zaz s 1024,0)):=fun _=>rfl;generalize ZaM K (l.map PV.plc)=AF at *;generalize hLL:l.map PV.plc=L at *;generalize ZaY K L=IR at *;obtain ⟨ma,mi,ks⟩:=K;dsimp only at *;generalize ks.length=lk at *;have B1:Below w.heap.size w (w.alloc (.cells #[.int .i64 ma,.int .i64 mi,.slice qe lk je] 24)):=(Below.refl _ _).alloc (Nat.le_refl _) _;have K1:Za (w.alloc (.cells #[.int .i64 ma,.int .i64 mi,.slice qe lk je] 24)) w.heap.size 24 #[.int .i64 ma,.int .i64 mi,.slice qe lk je]:=Za.new w 24 #[.int .i64 ma,.int .i64 mi,.slice qe lk je]
 go_enter Tryz.func48,Tryz.ntmps48
 go_wp2_with fail
 go_loopw [6,7] (fun f i wr=>∃ (k:Nat) (S:ByteArray),k≤l.length∧i=.int .i64 k∧f=.string S∧Hid (∃ e:Nat,S.size≤64*e∧okPl e (L.drop k))∧Hid (AF ⟨#[]⟩ L=AF S (L.drop k))∧Below (w.heap.size+1) (w.alloc (.cells #[.int .i64 ma,.int .i64 mi,.slice qe lk je] 24)) wr) (fun _ i _=>l.length-(intOf i).toNat)
 case atStart=>exact ⟨0,⟨#[]⟩,Nat.zero_le _,rfl,rfl,(⟨0,Nat.le_refl _,HO2.out⟩:∃ e:Nat,(⟨#[]⟩:ByteArray).size≤64*e∧okPl e (L.drop 0)),(by show AF ⟨#[]⟩ L=AF ⟨#[]⟩ (L.drop 0);rfl),Below.refl _ _⟩
 case round=>
  obtain ⟨k,S,hk,rfl,rfl,HSZ,HCC,B⟩:=hrel;have B':Below w.heap.size w wr:=B1.trans (B.mono (by omega));have K3:=K1.below B (by omega)
  by_cases hlt:k<l.length
  ·obtain ⟨x,hx⟩:∃ x,l[k]?=some x:=⟨_,List.getElem?_eq_getElem hlt⟩
   have hLx:L[k]?=some x.plc:=by rw [← hLL,List.getElem?_map,hx];rfl
   rcases hrow with h | ⟨b,off,rfl,hbn,hcells⟩
   ·subst h;simp at hlt
   have HR:Hid (AF ⟨#[]⟩ L=if (IR x.plc).2≠0 then (⟨#[]⟩,(IR x.plc).2) else AF (Zaz S (64*x.first.toNat)++(IR x.plc).1) (L.drop (k+1))):=by
    show AF ⟨#[]⟩ L=_
    rw [HCC.out,drop_at hLx,HAC.out]
    rfl
   obtain ⟨e,he,hpl⟩:=HSZ.out;rw [drop_at hLx] at hpl;obtain ⟨p1,p2,p3,p4⟩:=hpl
   change (e:Int)≤x.first at p1
   change 1≤szM x.mod at p2
   change x.first+(szM x.mod:Int)≤16 at p3
   change okPl (x.first+(szM x.mod:Int)) (L.drop (k+1)) at p4
   have HIX:Hid ((IR x.plc).2=0→(IR x.plc).1.size=64*szM x.mod):=HIS.out x.plc;obtain ⟨n,hn⟩:∃ n:Nat,x.first=n:=⟨x.first.toNat,by omega⟩
   have HX:=HM.out k x hx;have c7':=hcells k _ hx 7 (by omega)
   change w.cell? _=some (.int .i64 x.first) at c7'
   rw [hn] at HR p1 p3 p4 c7';rw [Int.toNat_natCast] at HR;generalize IR x.plc=R at HX HR HIX;generalize szM x.mod=zz at *;have HP4:Hid (okPl ((n+zz:Nat):Int) (L.drop (k+1))):=by
    show okPl ((n+zz:Nat):Int) (L.drop (k+1))
    rw [show ((n+zz:Nat):Int)=(n:Int)+(zz:Int) by omega];exact p4
   have HXX:Hid (∀ W,Below w.heap.size w W→Calls Tryz.prog 107 #[.agg #[.int .i64 ma,.int .i64 mi,.slice qe lk je],.slice (some ⟨b,off,none⟩) l.length cap,.int .i64 k] W fun e w'=>e=.returned (.tuple #[.string R.1,.int .i64 R.2])∧Below W.heap.size W w'):=HX;have hSn:S.size≤64*n:=by omega
   have d0:=K3.cell 0;have d1:=K3.cell 1;have d2:=K3.cell 2;have hk3:=K3.lt;simp at d0 d1 d2;obtain ⟨R1,R2⟩:=R;dsimp only at HXX HR HIX;clear hcells hx hLx HX HM HAC HAN HIS HSZ HCC p4 HO2 K3 hn he p1;have hkl:(k:Int)<(l.length:Int):=by omega
   go_wp2_with fail;refine (HXX.out _ B').mono ?_;rintro e2 w7 ⟨rfl,b7⟩;have E7:=B.trans (b7.mono (by have:=B.size;simp at this;omega));have F7:=B'.trans (b7.mono B'.size);clear HXX d0 d1 d2
   by_cases hq:R2=0
   ·subst hq
    obtain ⟨F,HFF⟩:∃ F,Hid (Zaz S (64*n)=F):=⟨Zaz S (64*n),(rfl:Zaz S (64*n)=Zaz S (64*n))⟩;have HR2:Hid (AF ⟨#[]⟩ L=AF (F++R1) (L.drop (k+1))):=by
     show AF ⟨#[]⟩ L=_
     rw [HR.out,← HFF.out];rfl
    have hFn:F.size=64*n:=by rw [← HFF.out];exact fillTo_size hSn
    have hR1:R1.size=64*zz:=HIX.out rfl;have HS2:Hid (∃ e:Nat,(F++R1).size≤64*e∧okPl e (L.drop (k+1))):=by
     refine ⟨n+zz,?_,HP4.out⟩;rw [ByteArray.size_append,hFn,hR1]
     omega
    clear HR HIX HP4;have i1:IntKind.i64.wrap (64*(n:Int))=((64*n:Nat):Int):=by rw [i64_is];unfold wrap64;omega
    go_wp2_with fail
    go_loopw [6] (fun f wi=>∃ (S2:ByteArray),f=.string S2∧Hid (S2.size≤64*n∧Zaz S2 (64*n)=F)∧Below w7.heap.size w7 wi) (fun f _=>64*n-sizeV f)
    case atStart=>exact ⟨S,rfl,(⟨hSn,HFF.out⟩:S.size≤64*n∧Zaz S (64*n)=F),Below.refl _ _⟩
    case round=>
     obtain ⟨S2,rfl,HS3,BI⟩:=hrel;have BW:=F7.trans (BI.mono F7.size);have EW:=E7.trans (BI.mono (by have:=E7.size;simp at this;omega));obtain ⟨a1,a3⟩:=HS3.out;have c7:=(BW.cell (p:=⟨b,off+k*8+7,none⟩) hbn).trans c7';clear c7' HS3
     by_cases hS:S2.size=64*n
     ·have hFS:F=S2:=by rw [← a3,fillTo_done (by omega)]
      have hz4:zz≤16:=by omega
      clear a3;subst hFS;have hno:¬ ((F.size:Int)<((64*n:Nat):Int)):=by omega
      have hbig:¬ (9223372036854775807<F.size+R1.size):=by omega
      go_wp2;exact ⟨⟨k+1,F++R1,by omega,by go_num,rfl,HS2,HR2,EW⟩,by simp [intOf];omega⟩
     ·have hyes:(S2.size:Int)<((64*n:Nat):Int):=by omega
      have HS4:Hid ((S2++⟨#[255]⟩).size≤64*n∧Zaz (S2++⟨#[255]⟩) (64*n)=F):=by
       have h1:(S2++⟨#[255]⟩).size=S2.size+1:=by rw [ByteArray.size_append];rfl
       exact ⟨by omega,by rw [fillTo_step (by omega),a3]⟩
      have hbig:¬ (9223372036854775807<S2.size+ByteArray.size ⟨#[255]⟩):=by
       have:ByteArray.size ⟨#[255]⟩=1:=rfl
       omega
      clear a3;go_wp2;refine ⟨⟨S2++⟨#[255]⟩,rfl,HS4,BI⟩,?_⟩;have h1:(S2++⟨#[255]⟩).size=S2.size+1:=by rw [ByteArray.size_append];rfl
      show 64*n-(S2++⟨#[255]⟩).size<64*n-S2.size
      omega
   ·have hq':(R2 != 0)=true:=by simpa using hq
    have HR2:Hid (AF ⟨#[]⟩ L=(⟨#[]⟩,R2)):=by
     show AF ⟨#[]⟩ L=_
     rw [HR.out,if_pos hq]
    clear HR hq HIX;go_wp2;go_ret2;exact ⟨by rw [HR2.out];rfl,F7⟩
  ·obtain rfl:k=l.length:=by omega
   obtain ⟨F,HFF⟩:∃ F,Hid (Zaz S 1024=F):=⟨Zaz S 1024,(rfl:Zaz S 1024=Zaz S 1024)⟩;have HZ:Hid (AF ⟨#[]⟩ L=(F,0)):=by
    show AF ⟨#[]⟩ L=(F,0)
    rw [HCC.out,show L.drop l.length=[] from by rw [← hLL,← List.length_map (f:=PV.plc)];exact List.drop_length,HAN.out,HFF.out]
   have hS1:S.size≤1024:=by
    obtain ⟨e,he,hpl⟩:=HSZ.out
    have:=okPl_end hpl
    omega
   clear HSZ HCC HM HAC HAN HIS HO2;go_wp2_with fail
   go_loopw [6] (fun f wi=>∃ (S2:ByteArray),f=.string S2∧Hid (S2.size≤1024∧Zaz S2 1024=F)∧Below wr.heap.size wr wi) (fun f _=>1024-sizeV f)
   case atStart=>exact ⟨S,rfl,(⟨hS1,HFF.out⟩:S.size≤1024∧Zaz S 1024=F),Below.refl _ _⟩
   case round=>
    obtain ⟨S2,rfl,HS3,BI⟩:=hrel;have BW:=B'.trans (BI.mono B'.size);obtain ⟨a1,a3⟩:=HS3.out;clear HS3
    by_cases hS:S2.size=1024
    ·have hFS:F=S2:=by rw [← a3,fillTo_done (by omega)]
     have HFS:Hid (F=S2):=hFS;clear a3 hFS;have hno:¬ ((S2.size:Int)<1024):=by omega
     go_wp2;go_ret2;exact ⟨by rw [HZ.out,HFS.out];rfl,BW⟩
    ·have hyes:(S2.size:Int)<1024:=by omega
     have HS4:Hid ((S2++⟨#[255]⟩).size≤1024∧Zaz (S2++⟨#[255]⟩) 1024=F):=by
      have h1:(S2++⟨#[255]⟩).size=S2.size+1:=by rw [ByteArray.size_append];rfl
      exact ⟨by omega,by rw [fillTo_step (by omega),a3]⟩
     have hbig:¬ (9223372036854775807<S2.size+ByteArray.size ⟨#[255]⟩):=by
      have:ByteArray.size ⟨#[255]⟩=1:=rfl
      omega
     clear a3;go_wp2;refine ⟨⟨S2++⟨#[255]⟩,rfl,HS4,BI⟩,?_⟩;have h1:(S2++⟨#[255]⟩).size=S2.size+1:=by rw [ByteArray.size_append];rfl
     show 1024-(S2++⟨#[255]⟩).size<1024-S2.size
     omega
theorem direct_any (l:List PV) (v:Value) (i k:Nat) (x y:PV) (hx:l[i]?=some x) (hy:l[k]?=some y) (w:World) (hrow:Zax w.heap.size w v l) :
  Calls Tryz.prog 54 #[v,.int .i64 i,.int .i64 k] w fun e w'=>e=.returned (.bool (Zcw x.mod y.mod.name))∧Below w.heap.size w w':=by
 have hat:=(hrow.2 x (List.mem_of_getElem? hx)).2.1;obtain ⟨⟨a,cap,rfl,hz,hrow⟩,_⟩:=hrow;have hil:i<l.length:=(List.getElem?_eq_some_iff.1 hx).1;have hkl:k<l.length:=(List.getElem?_eq_some_iff.1 hy).1
 rcases hrow with h | ⟨b,off,rfl,hbn,hcells⟩
 ·subst h;simp at hil
 have c5:=hcells i x hx 5 (by omega);have d0:=hcells k y hy 0 (by omega);dsimp only [PV.cell] at c5 d0;rw [Nat.add_zero] at d0;obtain ⟨pi,ki,e5,hzi,hri⟩:=hat;rw [e5] at c5;have HC0:Hid (Zcw x.mod y.mod.name=(x.mod.imps.drop 0).any fun i=>i.mod == y.mod.name):=(rfl:_=_);clear hcells hx hy e5;generalize Zcw x.mod y.mod.name=R at *;generalize y.mod.name=yn at *;generalize x.mod.imps=is at *;have hil':(i:Int)<(l.length:Int):=by omega
 have hkl':(k:Int)<(l.length:Int):=by omega
 go_enter Tryz.func54,Tryz.ntmps54
 go_wp2_with fail
 go_loopw [7] (fun q wr=>∃ (n:Nat),n≤is.length∧q=.int .i64 n∧Hid (R=(is.drop n).any fun i=>i.mod == yn)∧Below w.heap.size w wr) (fun q _=>is.length-(intOf q).toNat)
 case atStart=>exact ⟨0,Nat.zero_le _,rfl,HC0.out,Below.refl _ _⟩
 case round=>
  obtain ⟨n,hn,rfl,HC,B⟩:=hrel;clear HC0;have c5':=(B.cell (p:=⟨b,off+i*8+5,none⟩) hbn).trans c5;have d0':=(B.cell (p:=⟨b,off+k*8,none⟩) hbn).trans d0;have hbw:b<wr.heap.size:=Nat.lt_of_lt_of_le hbn B.size
  by_cases hlt:n<is.length
  ·obtain ⟨z,hz2⟩:∃ z,is[n]?=some z:=⟨_,List.getElem?_eq_getElem hlt⟩
   rcases hri with h | ⟨bi,offi,rfl,hbi,hci⟩
   ·subst h;simp at hlt
   have e0:=(B.cell (p:=⟨bi,offi+n*4+0,none⟩) hbi).trans (hci n z hz2 0 (by omega));dsimp only [Imp.cell] at e0;rw [Nat.add_zero] at e0;have HR:Hid (R=((z.mod.toList == yn.toList) || (is.drop (n+1)).any fun i=>i.mod == yn)):=by
    show R=_
    rw [HC.out,drop_at hz2,List.any_cons,← Zbg]
   have hbi2:bi<wr.heap.size:=Nat.lt_of_lt_of_le hbi B.size;have hlt':(n:Int)<(is.length:Int):=by omega
   clear hci HC hz2;generalize z.mod=zm at *
   cases ht:(zm.toList == yn.toList)
   ·rw [ht] at HR
    have HR2:Hid (R=(is.drop (n+1)).any fun i=>i.mod == yn):=by
     show R=_
     rw [HR.out,Bool.false_or]
    clear HR;go_wp2_with fail
    go_quiet (fail)
    have BQ:=below_drewN B;go_wp2;exact ⟨⟨n+1,by omega,by go_num,HR2.out,BQ _⟩,by simp [intOf];omega⟩
   ·rw [ht] at HR
    have HR2:Hid (R=true):=by
     show R=_
     rw [HR.out,Bool.true_or]
    clear HR;go_wp2_with fail
    go_quiet (fail)
    have BQ:=below_drewN B;go_wp2;go_ret;exact ⟨by rw [HR2.out];rfl,BQ _⟩
  ·obtain rfl:n=is.length:=by omega
   have HZ:Hid (R=false):=by
    show R=false
    rw [HC.out,List.drop_length];rfl
   go_wp2;go_ret;exact ⟨by rw [HZ.out];rfl,B⟩
def dirB (l:List PV) (i k:Nat):Bool:=match l[i]?,l[k]? with | some x,some y=>Zcw x.mod y.mod.name | _,_=>false
theorem dirB_at {l:List PV} {i k:Nat} {x y:PV} (hx:l[i]?=some x) (hy:l[k]?=some y):dirB l i k=Zcw x.mod y.mod.name:=by unfold dirB;rw [hx,hy]
theorem dirB_next {l:List PV} {i k:Nat} (hi:i<l.length) (hk:k<l.length):dirB l i k=true↔Next ZbC (l.map (·.mod)) i k:=by
 rw [dirB_at (List.getElem?_eq_getElem hi) (List.getElem?_eq_getElem hk)];exact (Next.iff (nx:=ZbC) (x:=l[i].mod) (y:=l[k].mod) (by rw [List.getElem?_map,List.getElem?_eq_getElem hi];rfl) (by rw [List.getElem?_map,List.getElem?_eq_getElem hk];rfl)).symm
def boolsTo (f:Nat→Bool) (k:Nat):List Value:=(List.range k).map fun j=>.bool (f j)
theorem boolsTo_succ (f:Nat→Bool) (k:Nat):boolsTo f (k+1)=boolsTo f k++[.bool (f k)]:=by unfold boolsTo;rw [List.range_succ,List.map_append];rfl
theorem boolsTo_at (f:Nat→Bool) {k j:Nat} (h:j<k):(boolsTo f k)[j]?=some (.bool (f j)):=by unfold boolsTo;rw [List.getElem?_map,List.getElem?_range h];rfl
theorem own_type_ne {W:World} {base:Nat} {e t:TypeId} {size:Nat} {v:Value} {n:Nat} {xs:List Value} (h:W.ownsRow base e size v n xs) {g:Nat} {cs:Array Value} (hc:Za W g t cs) (hne:t≠e):some g≠v.ownBlock:=by
 rcases h.2 with ⟨rfl,_⟩ | ⟨g',cap,cur,rfl,_,hb,_⟩
 ·intro h2;cases h2
 ·intro h2
  have h3:g=g':=by simpa [Value.ownBlock] using h2
  subst h3;have h4:W.heap[g]?=some (.cells cs t (0,0)):=hc;rw [hb] at h4;injection h4 with h4;injection h4 with _ h5;exact hne h5.symm
structure PartAt (W:World) (lim base n:Nat) (D:Nat→Nat→Bool) (vs:List Value):Prop where
 row:∀ (j:Nat) (v:Value),vs[j]?=some v→∃ g c cs,v=.slice (some ⟨g,0,none⟩) n c∧base≤g∧g<lim∧Za W g 4 cs∧∀ k,k<n→cs[k]?=some (.bool (D j k))
 apart:∀ (j k:Nat) (v v':Value),vs[j]?=some v→vs[k]?=some v'→v.ownBlock=v'.ownBlock→j=k
theorem PartAt.below {W W':World} {lim base n m:Nat} {D:Nat→Nat→Bool} {vs:List Value} (h:PartAt W lim base n D vs) (hb:Below m W W') (hm:lim≤m):PartAt W' lim base n D vs:=
 ⟨fun j v hj=>by
  obtain ⟨g,c,cs,h1,h2,h3,h4,h5⟩:=h.row j v hj;exact ⟨g,c,cs,h1,h2,h3,h4.below hb (by omega),h5⟩,h.apart⟩
theorem PartAt.more {W:World} {lim lim' base n:Nat} {D:Nat→Nat→Bool} {vs:List Value} (h:PartAt W lim base n D vs) (hm:lim≤lim'):PartAt W lim' base n D vs:=
 ⟨fun j v hj=>by
  obtain ⟨g,c,cs,h1,h2,h3,h4,h5⟩:=h.row j v hj;exact ⟨g,c,cs,h1,h2,by omega,h4,h5⟩,h.apart⟩
theorem PartAt.kept {W W':World} {lim base n b0 m:Nat} {D:Nat→Nat→Bool} {vs:List Value} {f:Value} {xs:List Value} (h:PartAt W lim base n D vs) (ho:W.ownsRow b0 139 1 f m xs) (hg:W.grownBy W' f.ownBlock):PartAt W' lim base n D vs:=
 ⟨fun j v hj=>by
  obtain ⟨g,c,cs,h1,h2,h3,h4,h5⟩:=h.row j v hj;exact ⟨g,c,cs,h1,h2,h3,h4.kept hg (own_type_ne ho h4 (by decide)),h5⟩,h.apart⟩
theorem PartAt.snoc {W:World} {lim lim' base n:Nat} {D:Nat→Nat→Bool} {vs:List Value} (h:PartAt W lim base n D vs) {g c:Nat} {cs:Array Value} (hb:base≤g) (hl:lim≤g) (hg:g<lim') (hc:Za W g 4 cs) (hD:∀ k,k<n→cs[k]?=some (.bool (D vs.length k))):PartAt W lim' base n D (vs++[.slice (some ⟨g,0,none⟩) n c]):=by
 have key:∀ (j:Nat) (v:Value),(vs++[Value.slice (some ⟨g,0,none⟩) n c])[j]?=some v→(j<vs.length∧vs[j]?=some v)∨(j=vs.length∧v=.slice (some ⟨g,0,none⟩) n c):=fun j v hj=>by
  by_cases h1:j<vs.length
  ·rw [List.getElem?_append_left h1] at hj
   exact .inl ⟨h1,hj⟩
  ·have h2:=(List.getElem?_eq_some_iff.1 hj).1
   simp at h2;have h3:j=vs.length:=by omega
   subst h3;refine .inr ⟨rfl,?_⟩
   simpa using hj.symm
 have lt:∀ (j:Nat) (v:Value),vs[j]?=some v→v.ownBlock≠some g:=fun j v hj e=>by
  obtain ⟨g',c',cs',rfl,_,h3,_⟩:=h.row j v hj
  have:g'=g:=by simpa [Value.ownBlock] using e
  omega
 refine ⟨fun j v hj=>?_,fun j k v v' hj hk he=>?_⟩
 ·rcases key j v hj with ⟨_,h1⟩ | ⟨rfl,rfl⟩
  ·obtain ⟨g',c',cs',h1,h2,h3,h4,h5⟩:=h.row j v h1
   exact ⟨g',c',cs',h1,h2,by omega,h4,h5⟩
  ·exact ⟨g,c,cs,rfl,hb,hg,hc,hD⟩
 ·rcases key j v hj with ⟨h1,h2⟩ | ⟨rfl,rfl⟩
  ·rcases key k v' hk with ⟨h3,h4⟩ | ⟨rfl,rfl⟩
   ·exact h.apart j k v v' h2 h4 he
   ·exact absurd he (lt j v h2)
  ·rcases key k v' hk with ⟨h3,h4⟩ | ⟨rfl,_⟩
   ·exact absurd he.symm (lt k v' h4)
   ·rfl
def MatAt (W:World) (base n:Nat) (v:Value) (T:Nat→Nat→Bool):Prop:=∃ vs:List Value,vs.length=n∧W.ownsRow base 139 1 v n vs∧PartAt W W.heap.size base n T vs
theorem MatAt.below {W W':World} {base n:Nat} {v:Value} {T:Nat→Nat→Bool} (h:MatAt W base n v T) (hb:Below W.heap.size W W'):MatAt W' base n v T:=by
 obtain ⟨vs,h1,h2,h3⟩:=h;exact ⟨vs,h1,own_below h2 hb,(h3.below hb (Nat.le_refl _)).more hb.size⟩
theorem addr_add0 (g j:Nat):(⟨g,0,none⟩:Addr).add j=⟨g,j,none⟩:=by unfold Addr.add;split <;> simp_all
theorem MatAt.at {W:World} {base n:Nat} {v:Value} {T:Nat→Nat→Bool} (h:MatAt W base n v T) (hn:0<n):∃ go co,v=.slice (some ⟨go,0,none⟩) n co∧base≤go∧go<W.heap.size∧
  ∃ (gs cs:Nat→Nat),∀ i,i<n→W.cell? ⟨go,i,none⟩=some (.slice (some ⟨gs i,0,none⟩) n (cs i))∧base≤gs i∧gs i<W.heap.size∧∀ k,k<n→W.cell? ⟨gs i,k,none⟩=some (.bool (T i k))∧W.frozen? ⟨gs i,k,none⟩=false:=by
 obtain ⟨vs,h1,h2,h3⟩:=h
 rcases h2.2 with ⟨_,h0⟩ | ⟨go,co,cur,rfl,hb,hc,_⟩
 ·omega
 refine ⟨go,co,rfl,hb,(Array.getElem?_eq_some_iff.1 hc).1,?_⟩;have each:∀ i,∃ g c,i<n→W.cell? ⟨go,i,none⟩=some (.slice (some ⟨g,0,none⟩) n c)∧base≤g∧g<W.heap.size∧∀ k,k<n→W.cell? ⟨g,k,none⟩=some (.bool (T i k))∧W.frozen? ⟨g,k,none⟩=false:=by
  intro i
  by_cases hi:i<n
  ·have hv:vs[i]?=some vs[i]:=List.getElem?_eq_getElem (by omega)
   obtain ⟨g,c,cs,e1,e2,e3,e4,e5⟩:=h3.row i _ hv;refine ⟨g,c,fun _=>⟨?_,e2,e3,fun k hk=>⟨(e4.cell k).trans (e5 k hk),e4.frozen k⟩⟩⟩
   have:=h2.cells (g:=go) rfl i _ hv
   rw [addr_add0,e1] at this;exact this
  ·exact ⟨0,0,fun h=>absurd h hi⟩
 refine ⟨fun i=>(each i).choose,fun i=>(each i).choose_spec.choose,fun i hi=>(each i).choose_spec.choose_spec hi⟩
theorem MatAt.set {W:World} {base n:Nat} {v:Value} {T:Nat→Nat→Bool} (h:MatAt W base n v T) {go co g c i k:Nat} (hi:i<n) (hk:k<n) (hv:v=.slice (some ⟨go,0,none⟩) n co) (hg:W.cell? ⟨go,i,none⟩=some (.slice (some ⟨g,0,none⟩) n c)) (b:Bool):MatAt (W.setCell ⟨g,k,none⟩ (.bool b)) base n v (setT T i k b):=by
 obtain ⟨vs,h1,h2,h3⟩:=h;have hvi:vs[i]?=some vs[i]:=List.getElem?_eq_getElem (by omega);obtain ⟨g',c',cs,e1,e2,e3,e4,e5⟩:=h3.row i _ hvi;have hgg:g=g':=by
  have:=h2.cells (g:=go) (by rw [hv];rfl) i _ hvi
  rw [addr_add0,e1,hg] at this;injection this with this;injection this with t1 _ _;injection t1 with t1;injection t1
 subst hgg;have hgr:=Zai W g k (.bool b);refine ⟨vs,h1,h2.kept hgr (.inr fun e=>own_type_ne h2 e4 (by decide) e.symm),⟨fun j v' hj=>?_,h3.apart⟩⟩;obtain ⟨g2,c2,cs2,f1,f2,f3,f4,f5⟩:=h3.row j v' hj
 by_cases hji:j=i
 ·subst hji
  rw [hvi] at hj;injection hj with hj;subst hj;rw [e1] at f1;injection f1 with t1 _ t3;injection t1 with t1;injection t1 with t1;subst t1 t3;refine ⟨g,c',cs.setIfInBounds k (.bool b),e1,e2,Nat.lt_of_lt_of_le e3 hgr.size,e4.set k _,fun q hq=>?_⟩;rw [Array.getElem?_setIfInBounds]
  by_cases hqk:k=q
  ·subst hqk
   have hsz:k<cs.size:=by
    have:=e5 k hk
    exact (Array.getElem?_eq_some_iff.1 this).1
   rw [if_pos rfl,if_pos hsz,setT_at]
  ·rw [if_neg hqk,setT_ne (fun h=>hqk h.2.symm)]
   exact e5 q hq
 ·have hne:some g2≠some g:=fun e=>by
   injection e with e;subst e;exact hji (h3.apart j i v' _ hj hvi (by rw [f1,e1];rfl))
  exact ⟨g2,c2,cs2,f1,f2,Nat.lt_of_lt_of_le f3 hgr.size,f4.kept hgr hne,fun q hq=>by rw [setT_ne (fun h=>hji h.1)];exact f5 q hq⟩
theorem infoBool:(Tryz.prog.info? 4).map (fun i=>(i.zero,i.size,i.bytes))=some (some (.bool false),1,1):=by kernel_rfl
theorem infoBool_parts:∃ i,Tryz.prog.info? 4=some i∧i.zero=some (.bool false)∧i.size=1∧i.bytes=1:=by
 have h:=infoBool
 cases hi:Tryz.prog.info? 4 with
 | none=>rw [hi] at h;cases h
 | some i=>
  rw [hi] at h;simp at h;exact ⟨i,rfl,h.1,h.2.1,h.2.2⟩
theorem infoBools:(Tryz.prog.info? 139).map (fun i=>(i.zero,i.size,i.bytes))=some (some (.slice none 0 0),1,24):=by kernel_rfl
theorem infoBools_parts:∃ i,Tryz.prog.info? 139=some i∧i.zero=some (.slice none 0 0)∧i.size=1∧i.bytes=24:=by
 have h:=infoBools
 cases hi:Tryz.prog.info? 139 with
 | none=>rw [hi] at h;cases h
 | some i=>
  rw [hi] at h;simp at h;exact ⟨i,rfl,h.1,h.2.1,h.2.2⟩
theorem reach_any (l:List PV) (v:Value) (w:World) (hrow:Zax w.heap.size w v l) (h8:l.length≤8) :
  Calls Tryz.prog 106 #[v] w fun e w'=>(∃ r T,e=.returned r∧MatAt w' w.heap.size l.length r T∧∀ a b,a<l.length→b<l.length→(T a b=true↔Via (Next ZbC (l.map (·.mod))) a b))∧Below w.heap.size w w':=by
 have HD:Hid (∀ (i k:Nat) W,i<l.length→k<l.length→Below w.heap.size w W→Calls Tryz.prog 54 #[v,.int .i64 i,.int .i64 k] W fun e w'=>e=.returned (.bool (dirB l i k))∧Below W.heap.size W w'):=fun i k W hi hk hb=>by
  rw [dirB_at (List.getElem?_eq_getElem hi) (List.getElem?_eq_getElem hk)];exact direct_any l v i k _ _ (List.getElem?_eq_getElem hi) (List.getElem?_eq_getElem hk) W ((hrow.below hb).more hb.size)
 have HST:Hid (∀ a b,a<l.length→b<l.length→(dirB l a b=true↔Next ZbC (l.map (·.mod)) a b)):=fun a b ha hb=>dirB_next ha hb;have HEL:Hid (∀ i k,Next ZbC (l.map (·.mod)) i k→i<l.length):=fun i k h=>by simpa using h.lt.1
 generalize Next ZbC (l.map (·.mod))=E at *;generalize dirB l=DD at *;obtain ⟨⟨a,cap,rfl,hmax,_⟩,_⟩:=hrow;generalize l.length=n at *;obtain ⟨ib,hib,hb0,hb1,hb2⟩:=infoBool_parts;obtain ⟨is,his,hs0,hs1,hs2⟩:=infoBools_parts
 go_enter Tryz.func106,Tryz.ntmps106
 go_wp2_with fail
 go_loopw [3,4] (fun f q wr=>∃ (i:Nat) (vs:List Value),i≤n∧q=.int .i64 i∧Hid (vs.length=i)∧wr.ownsRow w.heap.size 139 1 f i vs∧PartAt wr wr.heap.size w.heap.size n DD vs∧Below w.heap.size w wr) (fun _ q _=>n-(intOf q).toNat)
 case atStart=>exact ⟨0,[],Nat.zero_le _,rfl,(rfl:([]:List Value).length=0),⟨rfl,.inl ⟨rfl,rfl⟩⟩,⟨fun j v hj=>by simp at hj,fun j k v v' hj=>by simp at hj⟩,Below.refl _ _⟩
 case round=>
  obtain ⟨i,vs,hi,rfl,HL,hown,hpart,B⟩:=hrel;obtain ⟨wo,hwo⟩:∃ wo,wo=wr:=⟨_,rfl⟩;subst hwo;obtain ⟨av,kv,rfl⟩:=Zae hown;have HOW:Hid (wo.ownsRow w.heap.size 139 1 (.slice av i kv) i vs):=hown;have HPA:Hid (PartAt wo wo.heap.size w.heap.size n DD vs):=hpart;have HB0:Hid (Below w.heap.size w wo):=B;clear hown hpart B
  by_cases hlt:i<n
  ·have HDI:Hid (∀ (k:Nat) W,k<n→Below w.heap.size w W→Calls Tryz.prog 54 #[.slice a n cap,.int .i64 i,.int .i64 k] W fun e w'=>e=.returned (.bool (DD i k))∧Below W.heap.size W w'):=fun k W hk hb=>HD.out i k W hlt hk hb
   go_wp2_with fail
   go_loopw [5,6] (fun f q wi=>∃ (k:Nat),k≤n∧q=.int .i64 k∧wi.ownsRow wo.heap.size 4 1 f k (boolsTo (DD i) k)∧Below wo.heap.size wo wi) (fun _ q _=>n-(intOf q).toNat)
   case atStart=>exact ⟨0,Nat.zero_le _,rfl,⟨rfl,.inl ⟨rfl,rfl⟩⟩,Below.refl _ _⟩
   case round=>
    obtain ⟨k,hk,rfl,hrowk,BI⟩:=hrel;have BW:Below w.heap.size w wr:=HB0.out.trans (BI.mono HB0.out.size);have HSZ:Hid (wo.heap.size≤wr.heap.size):=BI.size
    by_cases hltk:k<n
    ·obtain ⟨ar,kr,rfl⟩:=Zae hrowk
     have HBS:Hid (boolsTo (DD i) (k+1)=boolsTo (DD i) k++[.bool (DD i k)]):=boolsTo_succ (DD i) k;have HDK:Hid (Calls Tryz.prog 54 #[.slice a n cap,.int .i64 i,.int .i64 k] wr fun e w'=>e=.returned (.bool (DD i k))∧Below wr.heap.size wr w'):=HDI.out k wr hltk BW;generalize boolsTo (DD i) k=acc at *;generalize DD i k=t at *;go_wp2_with fail;refine HDK.out.mono ?_;rintro e w3 ⟨rfl,b3⟩;have row3:=own_below hrowk b3;have B3:Below wo.heap.size wo w3:=BI.trans (b3.mono HSZ.out);have HB3:Hid (Below wo.heap.size wo w3):=B3;have HS3:Hid (wo.heap.size≤w3.heap.size):=B3.size;clear HDK b3 BI BW B3 hrowk;go_wp2_with (at_builtin;refine wpList_append_lies _ rfl _ _ _ rfl wo.heap.size 4 ib _ 1 1 Tryz.underlying139 hib hb0 hb1 hb2 rfl (by omega) (.slice ar k kr) k acc rfl (row3.alloc _) ⟨w3.heap.size,0,none⟩ 1 1 [.bool t] rfl rfl (World.news_of_block (cs:=#[.bool t]) (t:=4) (fr:=(0,0)) (Za.new w3 4 #[.bool t])) (by simp [Value.oneCell']) (by omega) (by unfold maxLen;omega) (by omega) (by have:=HS3.out;simp;omega) (w3.heap.size+1) (by simp) ?_;intro g gc w8 hown8 hgrow hat hltg);have BA:=HB3.out.alloc HB3.out.size (.cells #[.bool t] 4);exact ⟨⟨k+1,by omega,by go_num,by rw [HBS.out];exact hown8,BA.grown hgrow BA.size (fun i hi=>ZaP row3 i hi)⟩,by simp [intOf];omega⟩
    ·obtain rfl:k=n:=by omega
     rcases hrowk.2 with ⟨_,h0⟩ | ⟨gr,cr,cur,rfl,hgr,hcr,hcap,_,hsz,htk⟩
     ·omega
     have hrw:=hrowk;have own3:wr.ownsRow w.heap.size 139 1 (.slice av i kv) i vs:=own_below HOW.out BI;have part3:PartAt wr wo.heap.size w.heap.size k DD vs:=HPA.out.below BI (Nat.le_refl _);have HP3:Hid (PartAt wr wo.heap.size w.heap.size k DD vs):=part3;have HCR:Hid (Za wr gr 4 cur∧wo.heap.size≤gr∧∀ q,q<k→cur[q]?=some (.bool (DD i q))):=by
      refine ⟨hcr,hgr,fun q hq=>?_⟩;have h1:=boolsTo_at (DD i) hq;have h2:=hrw.cells (g:=gr) rfl q _ h1;rw [addr_add0] at h2;exact ((Za.cell (t:=4) (cs:=cur) hcr q).symm.trans h2)
     have HBW:Hid (Below w.heap.size w wr):=BW;have HS3:Hid (w.heap.size≤wr.heap.size):=BW.size;clear hcr hgr hcap hsz htk hrw hrowk part3 BI BW HDI HPA HOW;go_wp2_with (at_builtin;refine wpList_append_lies _ rfl _ _ _ rfl w.heap.size 139 is _ 1 24 Tryz.underlying137 his hs0 hs1 hs2 rfl (by omega) (.slice av i kv) i vs rfl (own3.alloc _) ⟨wr.heap.size,0,none⟩ 1 1 [.slice (some ⟨gr,0,none⟩) k cr] rfl rfl (World.news_of_block (cs:=#[.slice (some ⟨gr,0,none⟩) k cr]) (t:=139) (fr:=(0,0)) (Za.new wr 139 #[.slice (some ⟨gr,0,none⟩) k cr])) (by simp [Value.oneCell']) (by omega) (by unfold maxLen;omega) (by omega) (by have:=HS3.out;simp;omega) (wr.heap.size+1) (by simp) ?_;intro g gc w8 hown8 hgrow hat hltg);obtain ⟨q1,q2,q3⟩:=HCR.out;have ga:=World.grownBy_alloc wr (.cells #[.slice (some ⟨gr,0,none⟩) k cr] 139) none;have BA:=HBW.out.alloc HBW.out.size (.cells #[.slice (some ⟨gr,0,none⟩) k cr] 139);have ba:Below wr.heap.size wr (wr.alloc (.cells #[.slice (some ⟨gr,0,none⟩) k cr] 139)):=(Below.refl _ _).alloc (Nat.le_refl _) _;have oa:=own3.alloc (.cells #[.slice (some ⟨gr,0,none⟩) k cr] 139);have p4:=(HP3.out.below ba HSZ.out).kept oa hgrow;have c4:=(q1.kept ga (by simp)).kept hgrow (own_type_ne oa (q1.kept ga (by simp)) (by decide));have p5:=p4.snoc (c:=cr) (Nat.le_trans HB0.out.size q2) q2 (Nat.lt_of_lt_of_le q1.lt (Nat.le_trans ga.size hgrow.size)) c4 (fun q hq=>by rw [HL.out];exact q3 q hq);have hln:Hid ((vs++[Value.slice (some ⟨gr,0,none⟩) k cr]).length=i+1):=by
      show (vs++[Value.slice (some ⟨gr,0,none⟩) k cr]).length=i+1
      rw [List.length_append,HL.out];rfl
     exact ⟨⟨i+1,vs++[.slice (some ⟨gr,0,none⟩) k cr],by omega,by go_num,hln,hown8,p5,BA.grown hgrow BA.size (fun i hi=>ZaP own3 i hi)⟩,by simp [intOf];omega⟩
  ·obtain rfl:n=i:=by omega
   have HM0:Hid (MatAt wo w.heap.size n (.slice av n kv) DD):=⟨vs,HL.out,HOW.out,HPA.out⟩;have HF0:Hid (Fill E n 0 0 0 DD):=Fill.start HST.out;clear HOW HPA HL HD HST;go_wp2_with fail
   go_loopw [7] (fun q wr=>∃ (m:Nat) (T:Nat→Nat→Bool),m≤n∧q=.int .i64 m∧Hid (MatAt wr w.heap.size n (.slice av n kv) T)∧Hid (Fill E n m 0 0 T)∧Below w.heap.size w wr) (fun q _=>n-(intOf q).toNat)
   case atStart=>exact ⟨0,DD,Nat.zero_le _,rfl,HM0.out,HF0.out,HB0.out⟩
   case round=>
    obtain ⟨m,T,hm,rfl,HM,HF,B⟩:=hrel;clear HM0 HF0 HB0
    by_cases hltm:m<n
    ·go_wp2_with fail
     go_loopw [8] (fun q wr=>∃ (i:Nat) (T:Nat→Nat→Bool),i≤n∧q=.int .i64 i∧Hid (MatAt wr w.heap.size n (.slice av n kv) T)∧Hid (Fill E n m i 0 T)∧Below w.heap.size w wr) (fun q _=>n-(intOf q).toNat)
     case atStart=>exact ⟨0,T,Nat.zero_le _,rfl,HM.out,HF.out,B⟩
     case round=>
      obtain ⟨i,T2,hi2,rfl,HM2,HF2,B2⟩:=hrel;clear HM HF B
      by_cases hlti:i<n
      ·go_wp2_with fail
       go_loopw [9] (fun q wr=>∃ (k:Nat) (T:Nat→Nat→Bool),k≤n∧q=.int .i64 k∧Hid (MatAt wr w.heap.size n (.slice av n kv) T)∧Hid (Fill E n m i k T)∧Below w.heap.size w wr) (fun q _=>n-(intOf q).toNat)
       case atStart=>exact ⟨0,T2,Nat.zero_le _,rfl,HM2.out,HF2.out,B2⟩
       case round=>
        obtain ⟨k,T3,hk3,rfl,HM3,HF3,B3⟩:=hrel;clear HM2 HF2 B2
        by_cases hltk:k<n
        ·obtain ⟨go,co,hv,hbg,hgl,gs,cs,hall⟩:=HM3.out.at (by omega)
         injection hv with e1 _ e3;subst e1 e3;obtain ⟨ri,bi,li,ri4⟩:=hall i hlti;obtain ⟨rm,bm,lm,rm4⟩:=hall m hltm;obtain ⟨cik,fik⟩:=ri4 k hltk;have cim:=(ri4 m hltm).1;have cmk:=(rm4 k hltk).1;have HSET:Hid (∀ b,MatAt (wr.setCell ⟨gs i,k,none⟩ (.bool b)) w.heap.size n (.slice (some ⟨go,0,none⟩) n kv) (setT T3 i k b)):=fun b=>HM3.out.set hlti hltk rfl ri b;have HFS:Hid (Fill E n m i (k+1) (setT T3 i k (T3 i k || (T3 i m && T3 m k)))):=HF3.out.step hltm hlti hltk;have q1:(m:Int)<(n:Int):=by omega
         have q2:(i:Int)<(n:Int):=by omega
         have q3:(k:Int)<(n:Int):=by omega
         clear hall ri4 rm4 HM3 HF3;generalize gs i=gi at *;generalize gs m=gm at *;generalize cs i=ci at *;generalize cs m=cm at *;generalize setT T3 i k=ST at *;generalize T3 i k=t1 at *;generalize T3 i m=t2 at *;generalize T3 m k=t3 at *;have BS:∀ b,Below w.heap.size w (wr.setCell ⟨gi,k,none⟩ (.bool b)):=fun b=>B3.setCell bi (.bool b);have HBS:Hid (∀ b,Below w.heap.size w (wr.setCell ⟨gi,k,none⟩ (.bool b))):=BS;clear BS
         cases t1
         ·cases t2
          ·go_wp2_with fail
           go_region
           go_wp2;exact ⟨⟨k+1,ST false,by omega,by go_num,((HSET.out false).below (Below.refl _ _).drew:MatAt (wr.setCell ⟨gi,k,none⟩ (.bool false)).drew w.heap.size n (.slice (some ⟨go,0,none⟩) n kv) (ST false)),HFS.out,(HBS.out false).drew⟩,by simp [intOf];omega⟩
          ·cases t3
           ·go_wp2_with fail
            go_region
            go_wp2;exact ⟨⟨k+1,ST false,by omega,by go_num,((HSET.out false).below (Below.refl _ _).drew:MatAt (wr.setCell ⟨gi,k,none⟩ (.bool false)).drew w.heap.size n (.slice (some ⟨go,0,none⟩) n kv) (ST false)),HFS.out,(HBS.out false).drew⟩,by simp [intOf];omega⟩
           ·go_wp2_with fail
            go_region
            go_wp2;exact ⟨⟨k+1,ST true,by omega,by go_num,((HSET.out true).below (Below.refl _ _).drew:MatAt (wr.setCell ⟨gi,k,none⟩ (.bool true)).drew w.heap.size n (.slice (some ⟨go,0,none⟩) n kv) (ST true)),HFS.out,(HBS.out true).drew⟩,by simp [intOf];omega⟩
         ·go_wp2_with fail
          go_region
          go_wp2;exact ⟨⟨k+1,ST true,by omega,by go_num,((HSET.out true).below (Below.refl _ _).drew:MatAt (wr.setCell ⟨gi,k,none⟩ (.bool true)).drew w.heap.size n (.slice (some ⟨go,0,none⟩) n kv) (ST true)),HFS.out,(HBS.out true).drew⟩,by simp [intOf];omega⟩
        ·obtain rfl:k=n:=by omega
         go_wp2;exact ⟨⟨i+1,T3,by omega,by go_num,HM3.out,HF3.out.nextRow,B3⟩,by simp [intOf];omega⟩
      ·obtain rfl:i=n:=by omega
       go_wp2;exact ⟨⟨m+1,T2,by omega,by go_num,HM2.out,HF2.out.nextNum,B2⟩,by simp [intOf];omega⟩
    ·obtain rfl:m=n:=by omega
     go_wp2;go_ret;exact ⟨⟨_,T,rfl,HM.out,fun a b ha hb=>HF.out.all HEL.out ha hb⟩,B⟩
end Go.Proofs.YtlpnfbpgnfappaaGreat
