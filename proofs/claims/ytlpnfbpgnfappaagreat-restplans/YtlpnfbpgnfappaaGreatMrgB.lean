/- Texts that are laid together. -/
import Derived.Test.YtlpnfbpgnfappaaGreatMrgA
import Derived.Maps.OwnSet
import Derived.DeepKeys4
set_option maxHeartbeats 256000000
set_option maxRecDepth 100000

namespace Go.Proofs.YtlpnfbpgnfappaaGreat
open Go.RowKit Go.PlainAid
def Zal {α:Type} (sz:Nat) (cells:α→Nat→Value) (n₀:Nat) (W:World) (v:Value) (l:List α):Prop:=
 ∃ a cap,v=.slice a l.length cap∧l.length≤9223372036854775807∧(l=[]∨∃ b off,a=some ⟨b,off,none⟩∧b<n₀∧∀ j x,l[j]?=some x→∀ i,i<sz→W.cell? ⟨b,off+j*sz+i,none⟩=some (cells x i))
theorem Zal.below {α:Type} {sz:Nat} {cells:α→Nat→Value} {n₀:Nat} {W W':World} {v:Value} {l:List α} (h:Zal sz cells n₀ W v l) (hb:Below n₀ W W'):Zal sz cells n₀ W' v l:=by
 obtain ⟨a,cap,e,hl,h | ⟨b,off,e2,hlt,hc⟩⟩:=h
 ·exact ⟨a,cap,e,hl,.inl h⟩
 ·exact ⟨a,cap,e,hl,.inr ⟨b,off,e2,hlt,fun j x hj i hi=>(hb.cell (p:=⟨b,off+j*sz+i,none⟩) hlt).trans (hc j x hj i hi)⟩⟩
theorem Zal.more {α:Type} {sz:Nat} {cells:α→Nat→Value} {n₀ n₁:Nat} {W:World} {v:Value} {l:List α} (h:Zal sz cells n₀ W v l) (hn:n₀≤n₁):Zal sz cells n₁ W v l:=by
 obtain ⟨a,cap,e,hl,h | ⟨b,off,e2,hlt,hc⟩⟩:=h
 ·exact ⟨a,cap,e,hl,.inl h⟩
 ·exact ⟨a,cap,e,hl,.inr ⟨b,off,e2,by omega,hc⟩⟩
def Exp.cell (e:Exp):Nat→Value
 | 0=>.string e.name
 | _=>.int .i64 e.pos
def Imp.cell (i:Imp):Nat→Value
 | 0=>.string i.mod
 | 1=>.string i.name
 | 2=>.int .i64 i.major
 | _=>.int .i64 i.minor
def Pat.cell (p:Pat):Nat→Value
 | 0=>.int .i64 p.kind
 | 1=>.int .i64 p.pos
 | 2=>.int .i64 p.sym
 | _=>.int .i64 p.add
theorem drop_at {α:Type} {l:List α} {k:Nat} {x:α} (h:l[k]?=some x):l.drop k=x::l.drop (k+1):=by
 obtain ⟨hk,rfl⟩:=List.getElem?_eq_some_iff.1 h;exact List.drop_eq_getElem_cons hk
theorem patErr_cases (bytes imports E K A S D:Int):(width K=0∧Zcq bytes imports E ⟨K,A,S,D⟩=7)∨
  (width K≠0∧((S < -1∧Zcq bytes imports E ⟨K,A,S,D⟩=3)∨(-1≤S∧imports≤S∧Zcq bytes imports E ⟨K,A,S,D⟩=3)∨(-1≤S∧S<imports∧D<0∧Zcq bytes imports E ⟨K,A,S,D⟩=3)∨(-1≤S∧S<imports∧0≤D∧65535<D∧Zcq bytes imports E ⟨K,A,S,D⟩=3)∨
   (-1≤S∧S<imports∧0≤D∧D≤65535∧((A<0∧Zcq bytes imports E ⟨K,A,S,D⟩=3)∨(0≤A∧bytes-width K<A∧Zcq bytes imports E ⟨K,A,S,D⟩=3)∨(0≤A∧A≤bytes-width K∧A<E∧Zcq bytes imports E ⟨K,A,S,D⟩=4)∨
    (0≤A∧A≤bytes-width K∧E≤A∧Zcq bytes imports E ⟨K,A,S,D⟩=0))))):=by
 unfold Zcq;dsimp only
 by_cases h0:width K=0
 ·exact .inl ⟨h0,by rw [if_pos h0]⟩
 refine .inr ⟨h0,?_⟩;rw [if_neg h0]
 by_cases h1:S < -1
 ·exact .inl ⟨h1,by rw [Zar (n:=S) (.inl h1)];rfl⟩
 by_cases h2:imports≤S
 ·exact .inr (.inl ⟨by omega,h2,by rw [Zar (n:=S) (.inr (by omega))];rfl⟩)
 have hS:betw S (-1) (imports-1)=true:=ZaL (by omega) (by omega)
 by_cases h3:D<0
 ·exact .inr (.inr (.inl ⟨by omega,by omega,h3,by rw [hS,Zar (n:=D) (.inl h3)];rfl⟩))
 by_cases h4:65535<D
 ·exact .inr (.inr (.inr (.inl ⟨by omega,by omega,by omega,h4,by rw [hS,Zar (n:=D) (.inr h4)];rfl⟩)))
 have hD:betw D 0 65535=true:=ZaL (by omega) (by omega);refine .inr (.inr (.inr (.inr ⟨by omega,by omega,by omega,by omega,?_⟩)));rw [hS,hD]
 by_cases h5:A<0
 ·exact .inl ⟨h5,by rw [Zar (n:=A) (.inl h5)];rfl⟩
 by_cases h6:bytes-width K<A
 ·exact .inr (.inl ⟨by omega,h6,by rw [Zar (n:=A) (.inr h6)];rfl⟩)
 have hA:betw A 0 (bytes-width K)=true:=ZaL (by omega) (by omega);rw [hA]
 by_cases h7:A<E
 ·exact .inr (.inr (.inl ⟨by omega,by omega,h7,by rw [if_pos h7];rfl⟩))
 ·exact .inr (.inr (.inr ⟨by omega,by omega,by omega,by rw [if_neg h7];rfl⟩))
theorem width_bd (k:Int):0≤width k∧width k≤4:=by
 rcases width_cases k with ⟨_,h⟩ | ⟨_,h⟩ | ⟨_,h⟩ | ⟨_,h⟩ | ⟨_,h⟩ | ⟨_,_,_,_,_,h⟩ <;> omega
theorem wrongPatches_any (l:List Pat) (v:Value) (bytes imports:Int) (w:World) (hrow:Zal 4 Pat.cell w.heap.size w v l) (hb0:0≤bytes) (hb1:bytes≤140737488351232) (hl:l.length≤12) :
  Calls Tryz.prog 120 #[v,.int .i64 bytes,.int .i64 imports] w fun e w'=>e=.returned (.int .i64 (Zbk bytes imports 0 l))∧Below w.heap.size w w':=by
 obtain ⟨a,cap,rfl,_,hrow⟩:=hrow
 go_enter Tryz.func120,Tryz.ntmps120
 go_wp2
 go_loopw [7,13] (fun en i wr=>∃ (k:Nat) (E:Int),k≤l.length∧i=.int .i64 k∧en=.int .i64 E∧0≤E∧E≤140737488351232∧Hid (Zbk bytes imports 0 l=Zbk bytes imports E (l.drop k))∧Below w.heap.size w wr) (fun _ i _=>l.length-(intOf i).toNat)
 case atStart=>exact ⟨0,0,Nat.zero_le _,rfl,rfl,by omega,by omega,by show Zbk bytes imports 0 l=Zbk bytes imports 0 (l.drop 0);rfl,Below.refl _ _⟩
 case round=>
  obtain ⟨k,E,hk,rfl,rfl,e0,e1,HC,B⟩:=hrel
  by_cases hlt:k<l.length
  ·obtain ⟨p,hp⟩:∃ p,l[k]?=some p:=⟨_,List.getElem?_eq_getElem hlt⟩
   rcases hrow with h | ⟨b,off,rfl,hbn,hcells⟩
   ·subst h;simp at hlt
   obtain ⟨K,A,S,D⟩:=p;have c0:=(B.cell (p:=⟨b,off+k*4+0,none⟩) hbn).trans (hcells k _ hp 0 (by omega));have c1:=(B.cell (p:=⟨b,off+k*4+1,none⟩) hbn).trans (hcells k _ hp 1 (by omega));have c2:=(B.cell (p:=⟨b,off+k*4+2,none⟩) hbn).trans (hcells k _ hp 2 (by omega));have c3:=(B.cell (p:=⟨b,off+k*4+3,none⟩) hbn).trans (hcells k _ hp 3 (by omega));dsimp only [Pat.cell] at c0 c1 c2 c3;rw [Nat.add_zero] at c0;have HR:Hid (Zbk bytes imports 0 l=if Zcq bytes imports E ⟨K,A,S,D⟩=0 then Zbk bytes imports (A+width K) (l.drop (k+1)) else Zcq bytes imports E ⟨K,A,S,D⟩):=by
    show Zbk bytes imports 0 l=_
    rw [HC.out,drop_at hp];rfl
   have key:=patErr_cases bytes imports E K A S D;have hwd:=width_bd K;have PW:Hid (∀ w,Calls Tryz.prog 163 #[.int .i64 K] w fun e w'=>e=.returned (.int .i64 (width K))∧w'=w):=fun w=>patched_any K w;clear HC hcells hp;generalize Zcq bytes imports E ⟨K,A,S,D⟩=R at key HR;generalize width K=Wd at *
   rcases key with ⟨h0,rfl⟩ | ⟨h0,⟨h1,rfl⟩ | ⟨h1,h2,rfl⟩ | ⟨h1,h2,h3,rfl⟩ | ⟨h1,h2,h3,h4,rfl⟩ | ⟨h1,h2,h3,h4,⟨h5,rfl⟩ | ⟨h5,h6,rfl⟩ | ⟨h5,h6,h7,rfl⟩ | ⟨h5,h6,h7,rfl⟩⟩⟩
   case inl=>
    subst h0;go_wp2_with (go_at_call 163;refine (PW.out _).mono ?_;rintro e w' ⟨rfl,rfl⟩);go_ret;exact ⟨by rw [HR.out];rfl,B.alloc B.size _⟩
   all_goals
    have h0':(Wd == 0)=false:=beq_eq_false_iff_ne.2 h0;obtain ⟨hw0,hw4⟩:=hwd
   all_goals
    go_wp2_with (go_at_call 163;refine (PW.out _).mono ?_;rintro e w' ⟨rfl,rfl⟩)
   case roundEnd=>
    exact ⟨⟨k+1,A+Wd,by omega,by go_num,rfl,by omega,by omega,HR.out,B.alloc B.size _⟩,by simp [intOf];omega⟩
   all_goals
    go_ret;exact ⟨by rw [HR.out];rfl,B.alloc B.size _⟩
  ·obtain rfl:k=l.length:=by omega
   have HZ:Hid (Zbk bytes imports 0 l=0):=by
    show Zbk bytes imports 0 l=0
    rw [HC.out,List.drop_length];rfl
   go_wp2;go_ret;exact ⟨by rw [HZ.out];rfl,B⟩
end Go.Proofs.YtlpnfbpgnfappaaGreat
namespace Go.Proofs.YtlpnfbpgnfappaaGreat
open Go.RowKit Go.PlainAid Go.Maps Go.WideMaps
theorem lawS:Keyed Tryz.prog 9:=string_keyed Tryz.underlying9
theorem zeroI (w:World):(zeroValue 3).run Tryz.prog w=.ok (.int .i64 0) w:=by kernel_rfl
theorem expErr_cases (most:Int) (met:List ByteArray) (n:ByteArray) (p:Int) :
  (isNm n=false∧ZbO most met ⟨n,p⟩=1)∨(isNm n=true∧(met.any fun x=>x == n)=true∧ZbO most met ⟨n,p⟩=6)∨
  (isNm n=true∧(met.any fun x=>x == n)=false∧p<0∧ZbO most met ⟨n,p⟩=3)∨(isNm n=true∧(met.any fun x=>x == n)=false∧0≤p∧most≤p∧ZbO most met ⟨n,p⟩=3)∨
  (isNm n=true∧(met.any fun x=>x == n)=false∧0≤p∧p<most∧ZbO most met ⟨n,p⟩=0):=by
 unfold ZbO;dsimp only
 cases h1:isNm n
 ·exact .inl ⟨rfl,by simp⟩
 cases h2:met.any fun x=>x == n
 ·by_cases h3:p<0
  ·exact .inr (.inr (.inl ⟨rfl,rfl,h3,by rw [Zar (n:=p) (.inl h3)];simp⟩))
  by_cases h4:most≤p
  ·exact .inr (.inr (.inr (.inl ⟨rfl,rfl,by omega,h4,by rw [Zar (n:=p) (.inr (by omega))];simp⟩)))
  ·exact .inr (.inr (.inr (.inr ⟨rfl,rfl,by omega,by omega,by rw [ZaL (n:=p) (by omega) (by omega)];simp⟩)))
 ·exact .inr (.inl ⟨rfl,rfl,by simp⟩)
theorem ba_beq (x y:ByteArray):(x == y)=true↔x=y:=Go.MapKept.bytes_beq x y
theorem ba_bne {x y:ByteArray} (h:x≠y):(x == y)=false:=by
 cases e:x == y
 ·rfl
 ·exact absurd ((ba_beq x y).1 e) h
theorem ba_self (x:ByteArray):(x == x)=true:=(ba_beq x x).2 rfl
theorem lit_inj {x y:ByteArray} (h:Lit.string x.data.toList=Lit.string y.data.toList):x=y:=by
 injection h with h;exact ByteArray.ext (Array.toList_inj.1 h)
def Zbt (D:DataW Unit) (met:List ByteArray):Prop:=∀ x:ByteArray,Maps.has D (.string x.data.toList)=met.any fun y=>y == x
theorem Zbt.none:Zbt (.map []) []:=fun _=>rfl
theorem Zbt.put {D:DataW Unit} {met:List ByteArray} (h:Zbt D met) (hD:IsMap D) (n:ByteArray) (d:DataW Unit):Zbt (D.put (.string n.data.toList) d) (met++[n]):=by
 intro x;rw [List.any_append]
 by_cases e:x=n
 ·subst e
  rw [has_put_same hD (show WideAt.IsKeyLit (.string x.data.toList) from trivial)];simp [ba_self]
 ·rw [has_put_other (fun he=>e (lit_inj he)),h x]
  have:(n == x)=false:=ba_bne (fun he=>e he.symm)
  simp [this]
theorem wrongExports_any (l:List Exp) (v:Value) (bytes:Int) (w:World) (hrow:Zal 2 Exp.cell w.heap.size w v l) (hfit:∀ e∈l,e.name.size≤9223372036854775807) (hl:l.length≤8) :
  Calls Tryz.prog 118 #[v,.int .i64 bytes] w fun e w'=>e=.returned (.int .i64 (Zay bytes [] l))∧Below w.heap.size w w':=by
 obtain ⟨a,cap,rfl,_,hrow⟩:=hrow;have hmm:=@run_makeMap Tryz.prog
 go_enter Tryz.func118,Tryz.ntmps118
 go_wp2
 go_loopw [13] (fun i wr=>∃ (k:Nat) (D:DataW Unit),k≤l.length∧i=.int .i64 k∧wr.ownsMap Tryz.prog 9 (plainElem Tryz.prog 3) w.heap.size k D∧Zbt D ((l.take k).map (·.name))∧Hid (Zay bytes [] l=Zay bytes ((l.take k).map (·.name)) (l.drop k))∧Below w.heap.size w wr) (fun i _=>l.length-(intOf i).toNat)
 case atStart=>exact ⟨0,.map [],Nat.zero_le _,rfl,World.ownsMap_made _ _ _ _,Zbt.none,by show Zay bytes [] l=Zay bytes [] (l.drop 0);rfl,(Below.refl _ _).alloc (Nat.le_refl _) _⟩
 case round=>
  obtain ⟨k,D,hk,rfl,hown,hD,HC,B⟩:=hrel
  by_cases hlt:k<l.length
  ·obtain ⟨p,hp⟩:∃ p,l[k]?=some p:=⟨_,List.getElem?_eq_getElem hlt⟩
   rcases hrow with h | ⟨b,off,rfl,hbn,hcells⟩
   ·subst h;simp at hlt
   obtain ⟨n,A⟩:=p;have hn:=hfit _ (List.mem_of_getElem? hp);dsimp only at hn;have c0:=(B.cell (p:=⟨b,off+k*2+0,none⟩) hbn).trans (hcells k _ hp 0 (by omega));have c1:=(B.cell (p:=⟨b,off+k*2+1,none⟩) hbn).trans (hcells k _ hp 1 (by omega));dsimp only [Exp.cell] at c0 c1;rw [Nat.add_zero] at c0;have hkey:keyOf Tryz.prog 9 (.string n)=some (.string n.data.toList):=keyOf_string_mk Tryz.underlying9 hn;have htk:(l.take (k+1)).map (·.name)=(l.take k).map (·.name)++[n]:=by rw [List.take_add_one,hp];simp
   have HR:Hid (Zay bytes [] l=if ZbO bytes ((l.take k).map (·.name)) ⟨n,A⟩=0 then Zay bytes ((l.take (k+1)).map (·.name)) (l.drop (k+1)) else ZbO bytes ((l.take k).map (·.name)) ⟨n,A⟩):=by
    show Zay bytes [] l=_
    rw [HC.out,drop_at hp,htk];rfl
   have key:=expErr_cases bytes ((l.take k).map (·.name)) n A;have hhas:=hD n;have hput:∀ d,Zbt (D.put (.string n.data.toList) d) ((l.take (k+1)).map (·.name)):=fun d=>by rw [htk];exact hD.put hown.isMap n d
   clear HC hcells hp htk hD;have HPUT:Hid (∀ d,Zbt (D.put (.string n.data.toList) d) ((l.take (k+1)).map (·.name))):=hput;clear hput;generalize ZbO bytes ((l.take k).map (·.name)) ⟨n,A⟩=R at key HR;generalize ((l.take k).map (·.name)).any (fun x=>x == n)=T at key hhas
   rcases key with ⟨h1,rfl⟩ | ⟨h1,rfl,rfl⟩ | ⟨h1,rfl,h2,rfl⟩ | ⟨h1,rfl,h2,h3,rfl⟩ | ⟨h1,rfl,h2,h3,rfl⟩
   all_goals
    go_wp2_with (first
     | (at_lookup;refine wpList_lookup_own_ok_int _ rfl _ _ 171 rfl 9 3 .i64 lawS Tryz.underlying171 Tryz.underlying3 (zeroI _) w.heap.size k D rfl (hown.kept (World.grownBy_alloc _ _ none) (by simp)) _ _ rfl hkey ?_;intro c hat hwc;clear hat hwc)
     | (at_mapUpdate;refine wpList_mapUpdate_own _ rfl _ _ _ 171 rfl 9 3 lawS Tryz.underlying171 _ w.heap.size k _ rfl (hown.kept (World.grownBy_alloc _ _ none) (by simp)) (by unfold maxLen;omega) _ _ _ rfl rfl hkey _ [] (plainElem_int Tryz.underlying3 (WalkArith.wf_i64 (by omega))) ?_;intro w1 hown1 hgrow1)
     | (go_at_call 115;refine (isName_any _ _ (by assumption)).mono ?_;rintro e w' ⟨rfl,rfl⟩))
   case roundEnd=>
    exact ⟨⟨k+1,_,by omega,by go_num,hown1,HPUT.out _,HR.out,(B.alloc B.size _).grown hgrow1 (by simp;have:=B.size;omega) (fun j hj=>by cases hj;exact Nat.le_refl _)⟩,by simp [intOf];omega⟩
   all_goals
    go_ret;exact ⟨by rw [HR.out];rfl,B.alloc B.size _⟩
  ·obtain rfl:k=l.length:=by omega
   have HZ:Hid (Zay bytes [] l=0):=by
    show Zay bytes [] l=0
    rw [HC.out,List.drop_length];rfl
   go_wp2;go_ret;exact ⟨by rw [HZ.out];rfl,B⟩
theorem laidOut:laidOutB Tryz.prog=true:=by kernel_rfl
theorem lawP:Keyed Tryz.prog 192:=Keyed.of_law (deep_law_laid laidOut (m:=8) (by decide) (of_decide_eq_true (by kernel_rfl)) (by kernel_rfl) (by rw [Tryz.underlying192]))
theorem pair_key (m n:ByteArray) (hm:m.size≤9223372036854775807) (hn:n.size≤9223372036854775807):∃ l,keyOf Tryz.prog 192 (.agg #[.string m,.string n])=some l:=by
 have hc:Tryz.prog.cellsOf 192=2:=by kernel_rfl
 have hs:Tryz.prog.cellsOf 9=1:=by kernel_rfl
 have hk:Tryz.prog.keyType 192=true:=by kernel_rfl
 have hm':m.size≤maxLen:=hm;have hn':n.size≤maxLen:=hn;have e:∀ d,Tryz.prog.keyLits (d+1+1) 192 [.string m,.string n]=some [.string m.data.toList,.string n.data.toList]:=by
  intro d;simp [Program.keyLits,Tryz.underlying192,Tryz.underlying9,hc,hs,hm',hn']
 unfold keyOf;rw [Tryz.underlying192];simp [hk,Value.formed,Tryz.underlying192,hc,Value.cells];exact ⟨_,_,e _,rfl⟩
def HasPairs (D:DataW Unit) (met:List (ByteArray × ByteArray)):Prop:=∀ m n l,keyOf Tryz.prog 192 (.agg #[.string m,.string n])=some l→Maps.has D l=met.any fun x=>x.1 == m && x.2 == n
theorem HasPairs.none:HasPairs (.map []) []:=fun _ _ _ _=>rfl
theorem HasPairs.put {D:DataW Unit} {met:List (ByteArray × ByteArray)} (h:HasPairs D met) (hD:IsMap D) (m n:ByteArray) (l:Lit) (hl:keyOf Tryz.prog 192 (.agg #[.string m,.string n])=some l) (d:DataW Unit):HasPairs (D.put l d) (met++[(m,n)]):=by
 intro m' n' l' hl';rw [List.any_append]
 by_cases e:l'=l
 ·subst e
  have:=lawP.inj hl hl'
  injection this with this;have e2:=congrArg Array.toList this;simp at e2;obtain ⟨rfl,rfl⟩:=e2;rw [has_put_same hD (lawP.key hl)];simp [ba_self]
 ·rw [has_put_other e,h m' n' l' hl']
  have:(m == m' && n == n')=false:=by
   cases e1:m == m'
   ·rfl
   ·cases e2:n == n'
    ·rfl
    ·rw [ba_beq] at e1 e2
     subst e1;subst e2;rw [hl] at hl';exact absurd (Option.some.inj hl').symm e
  simp [this]
theorem impErr_cases (met:List (ByteArray × ByteArray)) (m n:ByteArray) (a b:Int) :
  (isNm m=false∧Zcl met ⟨m,n,a,b⟩=1)∨(isNm m=true∧isNm n=false∧Zcl met ⟨m,n,a,b⟩=1)∨(isNm m=true∧isNm n=true∧(met.any fun x=>x.1 == m && x.2 == n)=true∧Zcl met ⟨m,n,a,b⟩=6)∨
  (isNm m=true∧isNm n=true∧(met.any fun x=>x.1 == m && x.2 == n)=false∧Zcg a b=false∧Zcl met ⟨m,n,a,b⟩=3)∨(isNm m=true∧isNm n=true∧(met.any fun x=>x.1 == m && x.2 == n)=false∧Zcg a b=true∧Zcl met ⟨m,n,a,b⟩=0):=by
 unfold Zcl;dsimp only
 cases h1:isNm m
 ·exact .inl ⟨rfl,by simp⟩
 cases h2:isNm n
 ·exact .inr (.inl ⟨rfl,rfl,by simp⟩)
 cases h3:met.any fun x=>x.1 == m && x.2 == n
 ·cases h4:Zcg a b
  ·exact .inr (.inr (.inr (.inl ⟨rfl,rfl,rfl,rfl,by simp⟩)))
  ·exact .inr (.inr (.inr (.inr ⟨rfl,rfl,rfl,rfl,by simp⟩)))
 ·exact .inr (.inr (.inl ⟨rfl,rfl,rfl,by simp⟩))
theorem wrongImports_any (l:List Imp) (v:Value) (w:World) (hrow:Zal 4 Imp.cell w.heap.size w v l) (hfit:∀ e∈l,e.fits) (hl:l.length≤6) :
  Calls Tryz.prog 119 #[v] w fun e w'=>e=.returned (.int .i64 (chkImps [] l))∧Below w.heap.size w w':=by
 obtain ⟨a,cap,rfl,_,hrow⟩:=hrow;have hmm:=@run_makeMap Tryz.prog
 go_enter Tryz.func119,Tryz.ntmps119
 go_wp2
 go_loopw [12] (fun i wr=>∃ (k:Nat) (D:DataW Unit),k≤l.length∧i=.int .i64 k∧wr.ownsMap Tryz.prog 192 (plainElem Tryz.prog 3) w.heap.size k D∧HasPairs D ((l.take k).map fun x=>(x.mod,x.name))∧Hid (chkImps [] l=chkImps ((l.take k).map fun x=>(x.mod,x.name)) (l.drop k))∧Below w.heap.size w wr) (fun i _=>l.length-(intOf i).toNat)
 case atStart=>exact ⟨0,.map [],Nat.zero_le _,rfl,World.ownsMap_made _ _ _ _,HasPairs.none,by show chkImps [] l=chkImps [] (l.drop 0);rfl,(Below.refl _ _).alloc (Nat.le_refl _) _⟩
 case round=>
  obtain ⟨k,D,hk,rfl,hown,hD,HC,B⟩:=hrel
  by_cases hlt:k<l.length
  ·obtain ⟨p,hp⟩:∃ p,l[k]?=some p:=⟨_,List.getElem?_eq_getElem hlt⟩
   rcases hrow with h | ⟨b,off,rfl,hbn,hcells⟩
   ·subst h;simp at hlt
   obtain ⟨m,n,va,vb⟩:=p;obtain ⟨hm,hn⟩:=hfit _ (List.mem_of_getElem? hp);dsimp only at hm hn;have c0:=(B.cell (p:=⟨b,off+k*4+0,none⟩) hbn).trans (hcells k _ hp 0 (by omega));have c1:=(B.cell (p:=⟨b,off+k*4+1,none⟩) hbn).trans (hcells k _ hp 1 (by omega));have c2:=(B.cell (p:=⟨b,off+k*4+2,none⟩) hbn).trans (hcells k _ hp 2 (by omega));have c3:=(B.cell (p:=⟨b,off+k*4+3,none⟩) hbn).trans (hcells k _ hp 3 (by omega));dsimp only [Imp.cell] at c0 c1 c2 c3;rw [Nat.add_zero] at c0;obtain ⟨kl,hkey⟩:=pair_key m n hm hn;have htk:((l.take (k+1)).map fun x=>(x.mod,x.name))=((l.take k).map fun x=>(x.mod,x.name))++[(m,n)]:=by rw [List.take_add_one,hp];simp
   have HR:Hid (chkImps [] l=if Zcl ((l.take k).map fun x=>(x.mod,x.name)) ⟨m,n,va,vb⟩=0 then chkImps ((l.take (k+1)).map fun x=>(x.mod,x.name)) (l.drop (k+1)) else Zcl ((l.take k).map fun x=>(x.mod,x.name)) ⟨m,n,va,vb⟩):=by
    show chkImps [] l=_
    rw [HC.out,drop_at hp,htk];rfl
   have key:=impErr_cases ((l.take k).map fun x=>(x.mod,x.name)) m n va vb;have hhas:=hD m n kl hkey;have HPUT:Hid (∀ d,HasPairs (D.put kl d) ((l.take (k+1)).map fun x=>(x.mod,x.name))):=fun d=>by rw [htk];exact hD.put hown.isMap m n kl hkey d
   clear HC hcells hp htk hD;generalize Zcl ((l.take k).map fun x=>(x.mod,x.name)) ⟨m,n,va,vb⟩=R at key HR;generalize (((l.take k).map fun x=>(x.mod,x.name)).any fun x=>x.1 == m && x.2 == n)=T at key hhas;have HK:Hid (keyOf Tryz.prog 192 (.agg #[.string m,.string n])=some kl):=hkey;clear hkey
   rcases key with ⟨h1,rfl⟩ | ⟨h1,h2,rfl⟩ | ⟨h1,h2,rfl,rfl⟩ | ⟨h1,h2,rfl,h3,rfl⟩ | ⟨h1,h2,rfl,h3,rfl⟩
   all_goals
    go_wp2_with (first
     | (at_lookup;refine wpList_lookup_own_ok_int _ rfl _ _ 190 rfl 192 3 .i64 lawP Tryz.underlying190 Tryz.underlying3 (zeroI _) w.heap.size k D rfl ((hown.kept (World.grownBy_alloc _ _ none) (by simp)).kept (World.grownBy_alloc _ _ none) (by simp)) _ _ rfl HK.out ?_;intro c hat hwc;clear hat hwc)
     | (at_mapUpdate;refine wpList_mapUpdate_own _ rfl _ _ _ 190 rfl 192 3 lawP Tryz.underlying190 _ w.heap.size k _ rfl ((hown.kept (World.grownBy_alloc _ _ none) (by simp)).kept (World.grownBy_alloc _ _ none) (by simp)) (by unfold maxLen;omega) _ _ _ rfl rfl HK.out _ [] (plainElem_int Tryz.underlying3 (WalkArith.wf_i64 (by omega))) ?_;intro w1 hown1 hgrow1)
     | (go_at_call 115;refine (isName_any _ _ (by assumption)).mono ?_;rintro e w' ⟨rfl,rfl⟩)
     | (go_at_call 116;refine (ZbU _ _ _).mono ?_;rintro e w' ⟨rfl,rfl⟩))
   case roundEnd=>
    exact ⟨⟨k+1,_,by omega,by go_num,hown1,HPUT.out _,HR.out,((B.alloc B.size _).alloc (by simp;have:=B.size;omega) _).grown hgrow1 (by simp;have:=B.size;omega) (fun j hj=>by cases hj;exact Nat.le_refl _)⟩,by simp [intOf];omega⟩
   all_goals
    go_ret;exact ⟨by rw [HR.out];rfl,(B.alloc B.size _).alloc (by simp;have:=B.size;omega) _⟩
  ·obtain rfl:k=l.length:=by omega
   have HZ:Hid (chkImps [] l=0):=by
    show chkImps [] l=0
    rw [HC.out,List.drop_length];rfl
   go_wp2;go_ret;exact ⟨by rw [HZ.out];rfl,B⟩
end Go.Proofs.YtlpnfbpgnfappaaGreat
namespace Go.Proofs.YtlpnfbpgnfappaaGreat
open Go.RowKit Go.PlainAid
def Zbf (n₀:Nat) (W:World) (v:Value) (M:Mod):Prop:=
 ∃ ve vi vp,v=.agg #[.string M.name,.int .i64 M.major,.int .i64 M.minor,.string M.text,ve,vi,vp]∧Zal 2 Exp.cell n₀ W ve M.exps∧Zal 4 Imp.cell n₀ W vi M.imps∧Zal 4 Pat.cell n₀ W vp M.pats
def Mod.fits (M:Mod):Prop:=M.name.size≤9223372036854775807∧M.text.size≤9223372036854775807∧(∀ e∈M.exps,e.name.size≤9223372036854775807)∧∀ i∈M.imps,i.fits
theorem Zbf.below {n₀:Nat} {W W':World} {v:Value} {M:Mod} (h:Zbf n₀ W v M) (hb:Below n₀ W W'):Zbf n₀ W' v M:=by
 obtain ⟨ve,vi,vp,e,h1,h2,h3⟩:=h;exact ⟨ve,vi,vp,e,h1.below hb,h2.below hb,h3.below hb⟩
theorem Zbf.more {n₀ n₁:Nat} {W:World} {v:Value} {M:Mod} (h:Zbf n₀ W v M) (hn:n₀≤n₁):Zbf n₁ W v M:=by
 obtain ⟨ve,vi,vp,e,h1,h2,h3⟩:=h;exact ⟨ve,vi,vp,e,h1.more hn,h2.more hn,h3.more hn⟩
def tooManyB (M:Mod):Bool:=decide (256<(M.text.size:Int)) || decide (6<(M.exps.length:Int)) || decide (6<(M.imps.length:Int)) || decide (12<(M.pats.length:Int))
theorem tooMany_any (N T:ByteArray) (a b:Int) (l1 l2 l3:Nat) (p1 p2 p3:Option Addr) (k1 k2 k3:Nat) (w:World) :
  Calls Tryz.prog 117 #[.agg #[.string N,.int .i64 a,.int .i64 b,.string T,.slice p1 l1 k1,.slice p2 l2 k2,.slice p3 l3 k3]] w fun e w'=>
   e=.returned (.bool (decide (256<(T.size:Int)) || decide (6<(l1:Int)) || decide (6<(l2:Int)) || decide (12<(l3:Int))))∧Below w.heap.size w w':=by
 by_cases h1:256<(T.size:Int)
 ·rw [decide_eq_true h1]
  go_enter Tryz.func117,Tryz.ntmps117
  go_wp2;go_ret;exact ⟨rfl,(Below.refl _ _).alloc (Nat.le_refl _) _⟩
 have h1':decide (256<(T.size:Int))=false:=decide_eq_false h1;have g1:decide (256<T.size)=false:=decide_eq_false (by omega);rw [h1']
 by_cases h2:6<(l1:Int)
 ·rw [decide_eq_true h2]
  go_enter Tryz.func117,Tryz.ntmps117
  go_wp2;go_ret;exact ⟨rfl,(Below.refl _ _).alloc (Nat.le_refl _) _⟩
 have h2':decide (6<(l1:Int))=false:=decide_eq_false h2;have g2:decide (6<l1)=false:=decide_eq_false (by omega);rw [h2']
 by_cases h3:6<(l2:Int)
 ·rw [decide_eq_true h3]
  go_enter Tryz.func117,Tryz.ntmps117
  go_wp2;go_ret;exact ⟨rfl,(Below.refl _ _).alloc (Nat.le_refl _) _⟩
 have h3':decide (6<(l2:Int))=false:=decide_eq_false h3;have g3:decide (6<l2)=false:=decide_eq_false (by omega);rw [h3']
 by_cases h4:12<(l3:Int)
 ·rw [decide_eq_true h4]
  go_enter Tryz.func117,Tryz.ntmps117
  go_wp2;go_ret;exact ⟨rfl,(Below.refl _ _).alloc (Nat.le_refl _) _⟩
 ·have h4':decide (12<(l3:Int))=false:=decide_eq_false h4
  have g4:decide (12<l3)=false:=decide_eq_false (by omega);rw [h4']
  go_enter Tryz.func117,Tryz.ntmps117
  go_wp2;go_ret;exact ⟨rfl,(Below.refl _ _).alloc (Nat.le_refl _) _⟩
theorem chkMod_cases (M:Mod):(isNm M.name=false∧Zac M=1)∨(isNm M.name=true∧((M.name == kernelName)=true∧Zac M=1∨(M.name == kernelName)=false∧
  (Zcg M.major M.minor=false∧Zac M=3∨Zcg M.major M.minor=true∧(tooManyB M=true∧Zac M=2∨tooManyB M=false∧M.text.size≤256∧M.exps.length≤6∧M.imps.length≤6∧M.pats.length≤12∧
   (M.text.size=0∧Zac M=1∨0<M.text.size∧(M.text.size % 4≠0∧Zac M=1∨M.text.size % 4=0∧
    (Zay M.text.size [] M.exps≠0∧Zac M=Zay M.text.size [] M.exps∨Zay M.text.size [] M.exps=0∧
     (chkImps [] M.imps≠0∧Zac M=chkImps [] M.imps∨chkImps [] M.imps=0∧Zac M=Zbk M.text.size M.imps.length 0 M.pats)))))))):=by
 unfold Zac
 cases h1:isNm M.name
 ·exact .inl ⟨rfl,by simp⟩
 refine .inr ⟨rfl,?_⟩
 by_cases h2:(M.name == kernelName)=true
 ·exact .inl ⟨h2,by simp [h2]⟩
 have h2f:(M.name == kernelName)=false:=by simpa using h2
 refine .inr ⟨h2f,?_⟩;rw [h2f]
 cases h3:Zcg M.major M.minor
 ·exact .inl ⟨rfl,by simp⟩
 refine .inr ⟨rfl,?_⟩
 by_cases h4:256<M.text.size∨6<M.exps.length∨6<M.imps.length∨12<M.pats.length
 ·refine .inl ⟨?_,by simp [h4]⟩
  unfold tooManyB
  rcases h4 with h | h | h | h
  ·rw [decide_eq_true (show 256<(M.text.size:Int) by omega)];simp
  ·rw [decide_eq_true (show 6<(M.exps.length:Int) by omega)];simp
  ·rw [decide_eq_true (show 6<(M.imps.length:Int) by omega)];simp
  ·rw [decide_eq_true (show 12<(M.pats.length:Int) by omega)];simp
 have t1:tooManyB M=false:=by
  unfold tooManyB;rw [decide_eq_false (show ¬ 256<(M.text.size:Int) by omega),decide_eq_false (show ¬ 6<(M.exps.length:Int) by omega),decide_eq_false (show ¬ 6<(M.imps.length:Int) by omega),decide_eq_false (show ¬ 12<(M.pats.length:Int) by omega)];rfl
 refine .inr ⟨t1,by omega,by omega,by omega,by omega,?_⟩;rw [if_neg (by simp),if_neg (by simp),if_neg h4]
 by_cases h5:M.text.size=0
 ·exact .inl ⟨h5,by rw [if_pos (.inl h5)]⟩
 refine .inr ⟨by omega,?_⟩
 by_cases h6:M.text.size % 4≠0
 ·exact .inl ⟨h6,by rw [if_pos (.inr h6)]⟩
 refine .inr ⟨by omega,?_⟩;rw [if_neg (by omega)]
 by_cases h7:Zay M.text.size [] M.exps≠0
 ·exact .inl ⟨h7,by rw [if_pos h7]⟩
 refine .inr ⟨by omega,?_⟩;rw [if_neg h7]
 by_cases h8:chkImps [] M.imps≠0
 ·exact .inl ⟨h8,by rw [if_pos h8]⟩
 ·exact .inr ⟨by omega,by rw [if_neg h8]⟩
theorem Zcs (N:ByteArray):(N.toList == [107,101,114,110,101,108])=(N == kernelName):=by
 rw [Bool.eq_iff_iff,ba_beq,beq_iff_eq,ByteArray.toList_eq]
 constructor
 ·intro h;exact ByteArray.ext (Array.toList_inj.1 h)
 ·rintro rfl;rfl
theorem check_any (M:Mod) (v:Value) (w:World) (hM:Zbf w.heap.size w v M) (hf:M.fits) :
  Calls Tryz.prog 64 #[v] w fun e w'=>e=.returned (.int .i64 (Zac M))∧Below w.heap.size w w':=by
 have key:=chkMod_cases M;obtain ⟨ve,vi,vp,rfl,hE,hI,hP⟩:=hM;obtain ⟨z1,z2,z3,z4⟩:=hf;have HE:Hid (∀ w',Below w.heap.size w w'→M.exps.length≤6→Calls Tryz.prog 118 #[ve,.int .i64 M.text.size] w' fun e w''=>e=.returned (.int .i64 (Zay M.text.size [] M.exps))∧Below w'.heap.size w' w''):=
  fun w' hb hl=>wrongExports_any M.exps ve _ w' ((hE.below hb).more hb.size) z3 (by omega)
 have HI:Hid (∀ w',Below w.heap.size w w'→M.imps.length≤6→Calls Tryz.prog 119 #[vi] w' fun e w''=>e=.returned (.int .i64 (chkImps [] M.imps))∧Below w'.heap.size w' w''):=
  fun w' hb hl=>wrongImports_any M.imps vi w' ((hI.below hb).more hb.size) z4 hl
 have HP:Hid (∀ w',Below w.heap.size w w'→M.text.size≤256→M.pats.length≤12→Calls Tryz.prog 120 #[vp,.int .i64 M.text.size,.int .i64 M.imps.length] w' fun e w''=>e=.returned (.int .i64 (Zbk M.text.size M.imps.length 0 M.pats))∧Below w'.heap.size w' w''):=
  fun w' hb hl hl2=>wrongPatches_any M.pats vp _ _ w' ((hP.below hb).more hb.size) (by omega) (by omega) hl2
 obtain ⟨pe,ke,rfl,_,hE⟩:=hE;obtain ⟨pi,ki,rfl,_,hI⟩:=hI;obtain ⟨pp,kp,rfl,_,hP⟩:=hP;clear hE hI hP;have HT:Hid (∀ w,Calls Tryz.prog 117 #[.agg #[.string M.name,.int .i64 M.major,.int .i64 M.minor,.string M.text,.slice pe M.exps.length ke,.slice pi M.imps.length ki,.slice pp M.pats.length kp]] w fun e w'=>e=.returned (.bool (tooManyB M))∧Below w.heap.size w w'):=
  fun w=>tooMany_any _ _ _ _ _ _ _ _ _ _ _ _ _ w
 rw [← Zcs] at key;clear z3 z4;generalize Zay M.text.size [] M.exps=ce at *;generalize chkImps [] M.imps=ci at *;generalize Zbk M.text.size M.imps.length 0 M.pats=cp at *;generalize tooManyB M=tm at *;generalize Zac M=R at *;obtain ⟨N,a,b,T,es,is,ps⟩:=M;dsimp only at *;generalize es.length=le at *;generalize is.length=li at *;generalize ps.length=lp at *
 rcases key with ⟨h1,rfl⟩ | ⟨h1,⟨h2,rfl⟩ | ⟨h2,⟨h3,rfl⟩ | ⟨h3,⟨h4,rfl⟩ | ⟨h4,t1,t2,t3,t4,key⟩⟩⟩⟩
 ·go_enter Tryz.func64,Tryz.ntmps64
  go_wp2_with (go_at_call 115;refine (isName_any _ _ (by assumption)).mono ?_;rintro e w' ⟨rfl,rfl⟩);go_ret;exact ⟨rfl,(Below.refl _ _).alloc (Nat.le_refl _) _⟩
 ·go_enter Tryz.func64,Tryz.ntmps64
  go_wp2_with (go_at_call 115;refine (isName_any _ _ (by assumption)).mono ?_;rintro e w' ⟨rfl,rfl⟩);go_ret;exact ⟨rfl,(Below.refl _ _).alloc (Nat.le_refl _) _⟩
 ·go_enter Tryz.func64,Tryz.ntmps64
  go_wp2_with (first
   | (go_at_call 115;refine (isName_any _ _ (by assumption)).mono ?_;rintro e w' ⟨rfl,rfl⟩)
   | (go_at_call 116;refine (ZbU _ _ _).mono ?_;rintro e w' ⟨rfl,rfl⟩))
  go_ret;exact ⟨rfl,(Below.refl _ _).alloc (Nat.le_refl _) _⟩
 ·go_enter Tryz.func64,Tryz.ntmps64
  go_wp2_with (first
   | (go_at_call 115;refine (isName_any _ _ (by assumption)).mono ?_;rintro e w' ⟨rfl,rfl⟩)
   | (go_at_call 116;refine (ZbU _ _ _).mono ?_;rintro e w' ⟨rfl,rfl⟩)
   | (go_at_call 117;refine (HT.out _).mono ?_;rintro e w1 ⟨rfl,b1⟩))
  go_ret;exact ⟨rfl,((Below.refl _ _).alloc (Nat.le_refl _) _).trans (b1.mono (by simp))⟩
 ·have hfour:(T.size % 4≠0→((T.size:Int) % 4 != 0)=true)∧(T.size % 4=0→((T.size:Int) % 4 != 0)=false):=
   ⟨fun h=>by rw [bne_iff_ne];omega,fun h=>by simp;omega⟩
  have HW1:Hid (Below w.heap.size w (w.alloc (.cells #[.string N,.int .i64 a,.int .i64 b,.string T,.slice pe le ke,.slice pi li ki,.slice pp lp kp] 31))):=(Below.refl _ _).alloc (Nat.le_refl _) _;have fin:(((T.size:Int) == 0)=true∧R=1)∨(((T.size:Int) == 0)=false∧((T.size:Int) % 4 != 0)=true∧R=1)∨(((T.size:Int) == 0)=false∧((T.size:Int) % 4 != 0)=false∧(ce != 0)=true∧R=ce)∨(((T.size:Int) == 0)=false∧((T.size:Int) % 4 != 0)=false∧(ce != 0)=false∧(ci != 0)=true∧R=ci)∨(((T.size:Int) == 0)=false∧((T.size:Int) % 4 != 0)=false∧(ce != 0)=false∧(ci != 0)=false∧R=cp):=by
   rcases key with ⟨h5,h⟩ | ⟨h5,⟨h6,h⟩ | ⟨h6,⟨h7,h⟩ | ⟨h7,⟨h8,h⟩ | ⟨h8,h⟩⟩⟩⟩
   ·exact .inl ⟨by rw [beq_iff_eq];omega,h⟩
   ·exact .inr (.inl ⟨beq_eq_false_iff_ne.2 (by omega),hfour.1 h6,h⟩)
   ·exact .inr (.inr (.inl ⟨beq_eq_false_iff_ne.2 (by omega),hfour.2 h6,by simpa using h7,h⟩))
   ·exact .inr (.inr (.inr (.inl ⟨beq_eq_false_iff_ne.2 (by omega),hfour.2 h6,by simpa using h7,by simpa using h8,h⟩)))
   ·exact .inr (.inr (.inr (.inr ⟨beq_eq_false_iff_ne.2 (by omega),hfour.2 h6,by simpa using h7,by simpa using h8,h⟩)))
  clear key hfour
  rcases fin with ⟨h5,rfl⟩ | ⟨h5,h6,rfl⟩ | ⟨h5,h6,h7,rfl⟩ | ⟨h5,h6,h7,h8,rfl⟩ | ⟨h5,h6,h7,h8,rfl⟩
  all_goals
   go_enter Tryz.func64,Tryz.ntmps64
   go_wp2_with (first
    | (go_at_call 115;refine (isName_any _ _ (by assumption)).mono ?_;rintro e w' ⟨rfl,rfl⟩)
    | (go_at_call 116;refine (ZbU _ _ _).mono ?_;rintro e w' ⟨rfl,rfl⟩))
   refine (HT.out _).mono ?_;rintro e w1 ⟨rfl,b1⟩;have B1:=HW1.out.trans (b1.mono HW1.out.size);have cc:∀ o,w1.cell? ⟨w.heap.size,o,none⟩=(w.alloc (.cells #[.string N,.int .i64 a,.int .i64 b,.string T,.slice pe le ke,.slice pi li ki,.slice pp lp kp] 31)).cell? ⟨w.heap.size,o,none⟩:=fun o=>b1.cell (p:=⟨w.heap.size,o,none⟩) (by simp);have hz1:w.heap.size<w1.heap.size:=by have:=b1.size;simp at this;omega
   have d3:=cc 3;have d4:=cc 4;have d5:=cc 5;have d6:=cc 6;simp at d3 d4 d5 d6;clear cc b1;go_wp2_with fail
  ·go_ret
   exact ⟨rfl,B1⟩
  ·go_ret
   exact ⟨rfl,B1⟩
  ·refine (HE.out _ B1 t2).mono ?_
   rintro e w2 ⟨rfl,b2⟩;go_wp2;go_ret;exact ⟨rfl,B1.trans (b2.mono B1.size)⟩
  ·refine (HE.out _ B1 t2).mono ?_
   rintro e w2 ⟨rfl,b2⟩;have B2:=B1.trans (b2.mono B1.size);have d5':=(b2.cell (p:=⟨w.heap.size,5,none⟩) hz1).trans d5;go_wp2_with fail;refine (HI.out _ B2 t3).mono ?_;rintro e w3 ⟨rfl,b3⟩;go_wp2;go_ret;exact ⟨rfl,B2.trans (b3.mono B2.size)⟩
  ·refine (HE.out _ B1 t2).mono ?_
   rintro e w2 ⟨rfl,b2⟩;have B2:=B1.trans (b2.mono B1.size);have d5':=(b2.cell (p:=⟨w.heap.size,5,none⟩) hz1).trans d5;have d3':=(b2.cell (p:=⟨w.heap.size,3,none⟩) hz1).trans d3;have d6':=(b2.cell (p:=⟨w.heap.size,6,none⟩) hz1).trans d6;have hz2:w.heap.size<w2.heap.size:=Nat.lt_of_lt_of_le hz1 b2.size;go_wp2_with fail;refine (HI.out _ B2 t3).mono ?_;rintro e w3 ⟨rfl,b3⟩;have B3:=B2.trans (b3.mono B2.size);have d5'':=(b3.cell (p:=⟨w.heap.size,5,none⟩) hz2).trans d5';have d3'':=(b3.cell (p:=⟨w.heap.size,3,none⟩) hz2).trans d3';have d6'':=(b3.cell (p:=⟨w.heap.size,6,none⟩) hz2).trans d6';go_wp2_with fail;refine (HP.out _ B3 t1 t4).mono ?_;rintro e w4 ⟨rfl,b4⟩;go_wp2;go_ret;exact ⟨rfl,B3.trans (b4.mono B3.size)⟩
theorem any_take_le {α:Type} (l:List α) (p:α→Bool) (j k:Nat) (x:α) (h:l[j]?=some x) (hk:j<k) (hp:p x=true):(l.take k).any p=true:=by
 rw [List.any_eq_true];refine ⟨x,?_,hp⟩;rw [List.mem_iff_getElem?];exact ⟨j,by rw [List.getElem?_take_of_lt hk];exact h⟩
theorem Zbg (x y:ByteArray):(x.toList == y.toList)=(x == y):=by
 rw [Bool.eq_iff_iff,ba_beq,beq_iff_eq,ByteArray.toList_eq,ByteArray.toList_eq]
 constructor
 ·intro h;exact ByteArray.ext (Array.toList_inj.1 h)
 ·rintro rfl;rfl
theorem checkExports_any (l:List Exp) (v:Value) (most:Int) (w:World) (hrow:Zal 2 Exp.cell w.heap.size w v l) (hfit:∀ e∈l,e.name.size≤9223372036854775807) (hl:l.length≤8) (hm0:0≤most) (hm1:most≤140737488351232) :
  Calls Tryz.prog 110 #[v,.int .i64 most] w fun e w'=>e=.returned (.int .i64 (Zay most [] l))∧Below w.heap.size w w':=by
 obtain ⟨a,cap,rfl,_,hrow⟩:=hrow
 go_enter Tryz.func110,Tryz.ntmps110
 go_wp2
 go_loopw [5] (fun i wr=>∃ (k:Nat),k≤l.length∧i=.int .i64 k∧Hid (Zay most [] l=Zay most ((l.take k).map (·.name)) (l.drop k))∧Below w.heap.size w wr) (fun i _=>l.length-(intOf i).toNat)
 case atStart=>exact ⟨0,Nat.zero_le _,rfl,by show Zay most [] l=Zay most [] (l.drop 0);rfl,Below.refl _ _⟩
 case round=>
  obtain ⟨k,hk,rfl,HC,B⟩:=hrel
  by_cases hlt:k<l.length
  ·obtain ⟨p,hp⟩:∃ p,l[k]?=some p:=⟨_,List.getElem?_eq_getElem hlt⟩
   rcases hrow with h | ⟨b,off,rfl,hbn,hcells⟩
   ·subst h;simp at hlt
   obtain ⟨n,A⟩:=p;have hn:=hfit _ (List.mem_of_getElem? hp);dsimp only at hn;have c0:=(B.cell (p:=⟨b,off+k*2+0,none⟩) hbn).trans (hcells k _ hp 0 (by omega));have c1:=(B.cell (p:=⟨b,off+k*2+1,none⟩) hbn).trans (hcells k _ hp 1 (by omega));dsimp only [Exp.cell] at c0 c1;rw [Nat.add_zero] at c0;have HCELL:Hid (∀ j e,l[j]?=some e→w.cell? ⟨b,off+j*2,none⟩=some (.string e.name)):=fun j e hj=>hcells j e hj 0 (by omega);have htk:(l.take (k+1)).map (·.name)=(l.take k).map (·.name)++[n]:=by rw [List.take_add_one,hp];simp
   have HR:Hid (Zay most [] l=if ZbO most ((l.take k).map (·.name)) ⟨n,A⟩=0 then Zay most ((l.take (k+1)).map (·.name)) (l.drop (k+1)) else ZbO most ((l.take k).map (·.name)) ⟨n,A⟩):=by
    show Zay most [] l=_
    rw [HC.out,drop_at hp,htk];rfl
   clear HC hcells htk
   cases h1:isNm n
   ·have HV:Hid (ZbO most ((l.take k).map (·.name)) ⟨n,A⟩=1):=by show ZbO _ _ _=1;simp [ZbO,h1]
    go_wp2_with (go_at_call 108;refine (Zbc _ _ (by assumption)).mono ?_;rintro e w' ⟨rfl,rfl⟩);go_ret;exact ⟨by rw [HR.out,HV.out];rfl,B⟩
   ·go_wp2_with (go_at_call 108;refine (Zbc _ _ (by assumption)).mono ?_;rintro e w' ⟨rfl,rfl⟩)
    go_loopw [6] (fun i wr2=>∃ (j:Nat),j≤k∧i=.int .i64 j∧Hid (((l.take j).map (·.name)).any (fun x=>x == n)=false)∧Below w.heap.size w wr2) (fun i _=>k-(intOf i).toNat)
    case atStart=>exact ⟨0,Nat.zero_le _,rfl,by show (((l.take 0).map (·.name)).any (fun x=>x == n)=false);rfl,B⟩
    case round=>
     obtain ⟨j,hj,rfl,HN,B2⟩:=hrel
     by_cases hjk:j<k
     ·obtain ⟨q,hq⟩:∃ q,l[j]?=some q:=⟨_,List.getElem?_eq_getElem (by omega)⟩
      obtain ⟨n',A'⟩:=q;have d0:=(B2.cell (p:=⟨b,off+j*2,none⟩) hbn).trans (HCELL.out j _ hq);have d1:=(B2.cell (p:=⟨b,off+k*2,none⟩) hbn).trans (HCELL.out k _ hp);dsimp only at d0 d1;have hel:=Zbg n' n
      cases he:n' == n
      all_goals rw [he] at hel
      ·have HN2:Hid (((l.take (j+1)).map (·.name)).any (fun x=>x == n)=false):=by
        show ((l.take (j+1)).map (·.name)).any (fun x=>x == n)=false
        rw [List.take_add_one,hq]
        have:=HN.out
        simp only [List.map_append,List.any_append,this];simp [he]
       clear hq hp c0 c1;go_wp2
       go_quiet (fail)
       go_wp2;exact ⟨⟨j+1,by omega,by go_num,HN2,below_drewN B2 _⟩,by simp [intOf];omega⟩
      ·have HV:Hid (ZbO most ((l.take k).map (·.name)) ⟨n,A⟩=6):=by
        show ZbO _ _ _=6
        have:((l.take k).map (·.name)).any (fun x=>x == n)=true:=by
         rw [List.any_map];exact any_take_le l _ j k _ hq hjk he
        simp only [ZbO,h1,this];rfl
       clear hq hp c0 c1;go_wp2
       go_quiet (fail)
       go_wp2;go_ret;exact ⟨by rw [HR.out,HV.out];rfl,below_drewN B2 _⟩
     ·obtain rfl:j=k:=by omega
      have d1:=(B2.cell (p:=⟨b,off+j*2+1,none⟩) hbn).trans ((B.cell (p:=⟨b,off+j*2+1,none⟩) hbn).symm.trans c1)
      cases h3:betw A 0 (most-1)
      ·have HV:Hid (ZbO most ((l.take j).map (·.name)) ⟨n,A⟩=3):=by show ZbO _ _ _=3;simp only [ZbO,h1,HN.out,h3];rfl
       clear hp c0 c1;go_wp2_with (go_at_call 109;refine (Zaj _ _ _ _).mono ?_;rintro e w' ⟨rfl,rfl⟩);go_ret;exact ⟨by rw [HR.out,HV.out];rfl,B2⟩
      ·have HV:Hid (ZbO most ((l.take j).map (·.name)) ⟨n,A⟩=0):=by show ZbO _ _ _=0;simp only [ZbO,h1,HN.out,h3];rfl
       clear hp c0 c1;go_wp2_with (go_at_call 109;refine (Zaj _ _ _ _).mono ?_;rintro e w' ⟨rfl,rfl⟩);exact ⟨⟨j+1,by omega,by go_num,by show Zay most [] l=_;rw [HR.out,if_pos HV.out],B2⟩,by simp [intOf];omega⟩
  ·obtain rfl:k=l.length:=by omega
   have HZ:Hid (Zay most [] l=0):=by
    show Zay most [] l=0
    rw [HC.out,List.drop_length];rfl
   go_wp2;go_ret;exact ⟨by rw [HZ.out];rfl,B⟩
theorem impErr_own (met:List (ByteArray × ByteArray)) (i:Imp):Zcl met i=if Zbv i=1 then 1 else if (met.any fun x=>x.1 == i.mod && x.2 == i.name)=true then 6 else Zbv i:=by
 unfold Zcl Zbv
 cases h1:isNm i.mod && isNm i.name
 ·simp
 ·cases h2:Zcg i.major i.minor
  ·simp
  ·simp
theorem impOwn_three (i:Imp):Zbv i=1∨Zbv i=3∨Zbv i=0:=by
 unfold Zbv
 cases h1:isNm i.mod && isNm i.name
 ·simp
 ·cases h2:Zcg i.major i.minor <;> simp
theorem checkModule_good (M:Mod) (pe pi pp:Option Addr) (ke ki kp:Nat) (w:World)
  (hE:Zal 2 Exp.cell w.heap.size w (.slice pe M.exps.length ke) M.exps) (hI:Zal 4 Imp.cell w.heap.size w (.slice pi M.imps.length ki) M.imps) (hP:Zal 4 Pat.cell w.heap.size w (.slice pp M.pats.length kp) M.pats) (hf:M.fits)
  (h1:isNm M.name=true) (h2:(M.name.toList == [107,101,114,110,101,108])=false) (h3:betw M.major 0 255=true) (h4:betw M.minor 0 255=true) (t1:M.text.size≤256) (t2:M.exps.length≤6) (t3:M.imps.length≤6) (t4:M.pats.length≤12)
  (h5:((M.text.size:Int) == 0)=false) (h6:decide (0<(M.text.size:Int) % 4)=false) (h7:Zay M.text.size [] M.exps=0) :
  Calls Tryz.prog 49 #[.agg #[.string M.name,.int .i64 M.major,.int .i64 M.minor,.string M.text,.slice pe M.exps.length ke,.slice pi M.imps.length ki,.slice pp M.pats.length kp]] w fun e w'=>
   e=.returned (.int .i64 (if chkImps [] M.imps≠0 then chkImps [] M.imps else Zbk M.text.size M.imps.length 0 M.pats))∧Below w.heap.size w w':=by
 generalize hRES:(if chkImps [] M.imps≠0 then chkImps [] M.imps else Zbk M.text.size M.imps.length 0 M.pats)=RES;have HRES:Hid ((if chkImps [] M.imps≠0 then chkImps [] M.imps else Zbk M.text.size M.imps.length 0 M.pats)=RES):=hRES;clear hRES;obtain ⟨z1,z2,z3,z4⟩:=hf;have HE:Hid (∀ w',Below w.heap.size w w'→Calls Tryz.prog 110 #[.slice pe M.exps.length ke,.int .i64 M.text.size] w' fun e w''=>e=.returned (.int .i64 0)∧Below w'.heap.size w' w''):=by
  intro w' hb
  have:=checkExports_any M.exps _ M.text.size w' ((hE.below hb).more hb.size) z3 (by omega) (by omega) (by omega)
  rwa [h7] at this
 clear hE z3 h7;obtain ⟨N,a,b,T,es,is,ps⟩:=M;dsimp only at *;have HZ4:Hid (∀ e∈is,e.fits):=z4;have g1:decide (256<(T.size:Int))=false:=decide_eq_false (by omega);have g1':decide (256<T.size)=false:=decide_eq_false (by omega);have g2:decide (6<(es.length:Int))=false:=decide_eq_false (by omega);have g2':decide (6<es.length)=false:=decide_eq_false (by omega);have g3:decide (6<(is.length:Int))=false:=decide_eq_false (by omega);have g3':decide (6<is.length)=false:=decide_eq_false (by omega);have g4:decide (12<(ps.length:Int))=false:=decide_eq_false (by omega);have g4':decide (12<ps.length)=false:=decide_eq_false (by omega);have HII:Hid (Zal 4 Imp.cell w.heap.size w (.slice pi is.length ki) is):=hI;have HPP:Hid (Zal 4 Pat.cell w.heap.size w (.slice pp ps.length kp) ps):=hP;have HW1:Hid (Below w.heap.size w (w.alloc (.cells #[.string N,.int .i64 a,.int .i64 b,.string T,.slice pe es.length ke,.slice pi is.length ki,.slice pp ps.length kp] 31))):=(Below.refl _ _).alloc (Nat.le_refl _) _;clear hI hP z4
 go_enter Tryz.func49,Tryz.ntmps49
 go_wp2_with (first
  | (go_at_call 108;refine (Zbc _ _ (by assumption)).mono ?_;rintro e w' ⟨rfl,rfl⟩)
  | (go_at_call 109;refine (Zaj _ _ _ _).mono ?_;rintro e w' ⟨rfl,rfl⟩))
 refine (HE.out _ HW1.out).mono ?_;rintro e w1 ⟨rfl,b1⟩;have B1:=HW1.out.trans (b1.mono HW1.out.size);have cc:∀ o,w1.cell? ⟨w.heap.size,o,none⟩=(w.alloc (.cells #[.string N,.int .i64 a,.int .i64 b,.string T,.slice pe es.length ke,.slice pi is.length ki,.slice pp ps.length kp] 31)).cell? ⟨w.heap.size,o,none⟩:=fun o=>b1.cell (p:=⟨w.heap.size,o,none⟩) (by simp);have hz1:w.heap.size<w1.heap.size:=by have:=b1.size;simp at this;omega
 have d3:=cc 3;have d5:=cc 5;have d6:=cc 6;simp at d3 d5 d6;obtain ⟨_,_,e0,_,hI⟩:=(HII.out.below B1).more B1.size;obtain ⟨_,_,e1,_,hP⟩:=(HPP.out.below B1).more B1.size
 cases e0;cases e1
 clear cc b1 HE HII HPP HW1 g1 g1' g2 g2' g3 g3' g4 g4' h1 h2 h3 h4 h6;go_wp2
 go_loopw [4] (fun i wr=>∃ (k:Nat),k≤is.length∧i=.int .i64 k∧Hid (chkImps [] is=chkImps ((is.take k).map fun x=>(x.mod,x.name)) (is.drop k))∧Below w1.heap.size w1 wr) (fun i _=>is.length-(intOf i).toNat)
 case atStart=>exact ⟨0,Nat.zero_le _,rfl,by show chkImps [] is=chkImps [] (is.drop 0);rfl,Below.refl _ _⟩
 case round=>
  obtain ⟨k,hk,rfl,HC,B⟩:=hrel;have k5:=(B.cell (p:=⟨w.heap.size,5,none⟩) hz1).trans d5
  by_cases hlt:k<is.length
  ·obtain ⟨p,hp⟩:∃ p,is[k]?=some p:=⟨_,List.getElem?_eq_getElem hlt⟩
   rcases hI with h | ⟨bb,off,rfl,hbn,hcells⟩
   ·subst h;simp at hlt
   have hpf:=HZ4.out _ (List.mem_of_getElem? hp);obtain ⟨m,n,va,vb⟩:=p;have HCELL:Hid (∀ j e,is[j]?=some e→w1.cell? ⟨bb,off+j*4,none⟩=some (.string e.mod)∧w1.cell? ⟨bb,off+j*4+1,none⟩=some (.string e.name)):=fun j e hj=>⟨hcells j e hj 0 (by omega),hcells j e hj 1 (by omega)⟩;have c0:=(B.cell (p:=⟨bb,off+k*4+0,none⟩) hbn).trans (hcells k _ hp 0 (by omega));have c1:=(B.cell (p:=⟨bb,off+k*4+1,none⟩) hbn).trans (hcells k _ hp 1 (by omega));have c2:=(B.cell (p:=⟨bb,off+k*4+2,none⟩) hbn).trans (hcells k _ hp 2 (by omega));have c3:=(B.cell (p:=⟨bb,off+k*4+3,none⟩) hbn).trans (hcells k _ hp 3 (by omega));dsimp only [Imp.cell] at c0 c1 c2 c3;rw [Nat.add_zero] at c0;have htk:((is.take (k+1)).map fun x=>(x.mod,x.name))=((is.take k).map fun x=>(x.mod,x.name))++[(m,n)]:=by rw [List.take_add_one,hp];simp
   have HR:Hid (chkImps [] is=if Zcl ((is.take k).map fun x=>(x.mod,x.name)) ⟨m,n,va,vb⟩=0 then chkImps ((is.take (k+1)).map fun x=>(x.mod,x.name)) (is.drop (k+1)) else Zcl ((is.take k).map fun x=>(x.mod,x.name)) ⟨m,n,va,vb⟩):=by
    show chkImps [] is=_
    rw [HC.out,drop_at hp,htk];rfl
   have HCI:Hid (∀ w,Calls Tryz.prog 111 #[.agg #[.string m,.string n,.int .i64 va,.int .i64 vb]] w fun e w'=>e=.returned (.int .i64 (Zbv ⟨m,n,va,vb⟩))∧Below w.heap.size w w'):=fun w=>checkImport_any ⟨m,n,va,vb⟩ w hpf;have how:=impOwn_three ⟨m,n,va,vb⟩;have HIO:=impErr_own ((is.take k).map fun x=>(x.mod,x.name)) ⟨m,n,va,vb⟩;dsimp only at HIO;have HIO2:Hid (Zcl ((is.take k).map fun x=>(x.mod,x.name)) ⟨m,n,va,vb⟩=if Zbv ⟨m,n,va,vb⟩=1 then 1 else if (((is.take k).map fun x=>(x.mod,x.name)).any fun x=>x.1 == m && x.2 == n)=true then 6 else Zbv ⟨m,n,va,vb⟩):=HIO;clear HC hcells htk HIO hpf;generalize Zcl ((is.take k).map fun x=>(x.mod,x.name)) ⟨m,n,va,vb⟩=IE at *;generalize Zbv ⟨m,n,va,vb⟩=IW at *
   by_cases ho:IW=1
   ·subst ho
    have HV:Hid (chkImps [] is=1):=by show chkImps [] is=1;rw [HR.out,HIO2.out];rfl
    go_wp2_with fail;refine (HCI.out _).mono ?_;rintro e w2 ⟨rfl,b2⟩;go_wp2;go_ret;exact ⟨by rw [← HRES.out,HV.out];rfl,B1.trans ((B.trans (b2.mono B.size)).mono B1.size)⟩
   ·have ho':(IW == 1)=false:=beq_eq_false_iff_ne.2 ho
    go_wp2_with fail;refine (HCI.out _).mono ?_;rintro e w2 ⟨rfl,b2⟩;have B2:=B.trans (b2.mono B.size);clear c0 c1 c2 c3 k5;go_wp2
    go_loopw [6] (fun i wr2=>∃ (j:Nat),j≤k∧i=.int .i64 j∧Hid ((((is.take j).map fun x=>(x.mod,x.name)).any fun x=>x.1 == m && x.2 == n)=false)∧Below w1.heap.size w1 wr2) (fun i _=>k-(intOf i).toNat)
    case atStart=>exact ⟨0,Nat.zero_le _,rfl,by show (((is.take 0).map fun x=>(x.mod,x.name)).any fun x=>x.1 == m && x.2 == n)=false;rfl,B2⟩
    case round=>
     obtain ⟨j,hj,rfl,HN,B3⟩:=hrel;have k5:=(B3.cell (p:=⟨w.heap.size,5,none⟩) hz1).trans d5
     by_cases hjk:j<k
     ·obtain ⟨q,hq⟩:∃ q,is[j]?=some q:=⟨_,List.getElem?_eq_getElem (by omega)⟩
      obtain ⟨m',n',va',vb'⟩:=q;have x0:=(B3.cell (p:=⟨bb,off+j*4,none⟩) hbn).trans (HCELL.out j _ hq).1;have x1:=(B3.cell (p:=⟨bb,off+j*4+1,none⟩) hbn).trans (HCELL.out j _ hq).2;have y0:=(B3.cell (p:=⟨bb,off+k*4,none⟩) hbn).trans (HCELL.out k _ hp).1;have y1:=(B3.cell (p:=⟨bb,off+k*4+1,none⟩) hbn).trans (HCELL.out k _ hp).2;dsimp only at x0 x1 y0 y1;have hm:=Zbg m' m;have hn:=Zbg n' n
      cases he:(m' == m && n' == n)
      ·have HN2:Hid ((((is.take (j+1)).map fun x=>(x.mod,x.name)).any fun x=>x.1 == m && x.2 == n)=false):=by
        show (((is.take (j+1)).map fun x=>(x.mod,x.name)).any fun x=>x.1 == m && x.2 == n)=false
        rw [List.take_add_one,hq]
        have:=HN.out
        simp only [List.map_append,List.any_append,this];simp [he]
       have hsplit:(m'.toList == m.toList)=false∨((m'.toList == m.toList)=true∧(n'.toList == n.toList)=false):=by
        rw [hm,hn]
        cases e1:m' == m
        ·exact .inl rfl
        ·rw [e1] at he;exact .inr ⟨rfl,he⟩
       clear hq hp hm hn he
       rcases hsplit with hs1 | ⟨hs1,hs2⟩
       all_goals
        go_wp2
        go_quiet (fail)
        go_wp2;exact ⟨⟨j+1,by omega,by go_num,HN2,below_drewN B3 _⟩,by simp [intOf];omega⟩
      ·have HV:Hid (chkImps [] is=6):=by
        show chkImps [] is=6
        have:(((is.take k).map fun x=>(x.mod,x.name)).any fun x=>x.1 == m && x.2 == n)=true:=by
         rw [List.any_map];exact any_take_le is _ j k _ hq hjk he
        have e6:IE=6:=by rw [HIO2.out,if_neg ho,if_pos this]
        rw [HR.out,e6];rfl
       have hs1:(m'.toList == m.toList)=true:=by rw [hm];exact (Bool.and_eq_true _ _ ▸ he).1
       have hs2:(n'.toList == n.toList)=true:=by rw [hn];exact (Bool.and_eq_true _ _ ▸ he).2
       clear hq hp hm hn he;go_wp2
       go_quiet (fail)
       go_wp2;go_ret;exact ⟨by rw [← HRES.out,HV.out];rfl,B1.trans ((below_drewN B3 _).mono B1.size)⟩
     ·obtain rfl:j=k:=by omega
      have hIE:IE=IW:=by rw [HIO2.out,if_neg ho,if_neg (by rw [HN.out];simp)]
      have HIE:Hid (IE=IW):=hIE;clear hIE
      rcases how with h | h | h
      ·exact absurd h ho
      ·subst h
       have HV:Hid (chkImps [] is=3):=by show chkImps [] is=3;rw [HR.out,HIE.out];rfl
       go_wp2;go_ret;exact ⟨by rw [← HRES.out,HV.out];rfl,B1.trans (B3.mono B1.size)⟩
      ·subst h
       have HV:Hid (chkImps [] is=chkImps ((is.take (j+1)).map fun x=>(x.mod,x.name)) (is.drop (j+1))):=by show chkImps [] is=_;rw [HR.out,if_pos HIE.out]
       go_wp2;exact ⟨⟨j+1,by omega,by go_num,HV,B3⟩,by simp [intOf];omega⟩
  ·obtain rfl:k=is.length:=by omega
   have HV:Hid (Zbk T.size is.length 0 ps=RES):=by
    show Zbk T.size is.length 0 ps=RES
    rw [← HRES.out,if_neg];rw [HC.out,List.drop_length];simp [chkImps]
   clear HC HRES hI;go_wp2;have k6:=(B.cell (p:=⟨w.heap.size,6,none⟩) hz1).trans d6
   go_loopw [7,8] (fun en i wr=>∃ (k:Nat) (E:Int),k≤ps.length∧i=.int .i64 k∧en=.int .i64 E∧0≤E∧E≤140737488351232∧Hid (RES=Zbk T.size is.length E (ps.drop k))∧Below w1.heap.size w1 wr) (fun _ i _=>ps.length-(intOf i).toNat)
   case atStart=>exact ⟨0,0,Nat.zero_le _,rfl,rfl,by omega,by omega,by show RES=_;rw [← HV.out];rfl,B⟩
   case round=>
    obtain ⟨k,E,hk,rfl,rfl,e0,e1,HC,B2⟩:=hrel;have k6:=(B2.cell (p:=⟨w.heap.size,6,none⟩) hz1).trans d6;have k5:=(B2.cell (p:=⟨w.heap.size,5,none⟩) hz1).trans d5;have k3:=(B2.cell (p:=⟨w.heap.size,3,none⟩) hz1).trans d3
    by_cases hlt:k<ps.length
    ·obtain ⟨p,hp⟩:∃ p,ps[k]?=some p:=⟨_,List.getElem?_eq_getElem hlt⟩
     rcases hP with h | ⟨bb,off,rfl,hbn,hcells⟩
     ·subst h;simp at hlt
     obtain ⟨K,A,S,D⟩:=p;have c0:=(B2.cell (p:=⟨bb,off+k*4+0,none⟩) hbn).trans (hcells k _ hp 0 (by omega));have c1:=(B2.cell (p:=⟨bb,off+k*4+1,none⟩) hbn).trans (hcells k _ hp 1 (by omega));have c2:=(B2.cell (p:=⟨bb,off+k*4+2,none⟩) hbn).trans (hcells k _ hp 2 (by omega));have c3:=(B2.cell (p:=⟨bb,off+k*4+3,none⟩) hbn).trans (hcells k _ hp 3 (by omega));dsimp only [Pat.cell] at c0 c1 c2 c3;rw [Nat.add_zero] at c0;have HR:Hid (RES=if Zcq T.size is.length E ⟨K,A,S,D⟩=0 then Zbk T.size is.length (A+width K) (ps.drop (k+1)) else Zcq T.size is.length E ⟨K,A,S,D⟩):=by
      show RES=_
      rw [HC.out,drop_at hp];rfl
     have key:=patErr_cases T.size is.length E K A S D;have hwd:=width_bd K;have PW:Hid (∀ w,Calls Tryz.prog 112 #[.int .i64 K] w fun e w'=>e=.returned (.int .i64 (width K))∧w'=w):=fun w=>ZbI K w;clear HC hcells hp HV;generalize Zcq T.size is.length E ⟨K,A,S,D⟩=R at key HR;generalize width K=Wd at *;have cases5:(Wd=0∧R=7)∨((Wd == 0)=false∧(betw S (-1) ((is.length:Int)-1)=false∧R=3∨betw S (-1) ((is.length:Int)-1)=true∧(betw D 0 65535=false∧R=3∨betw D 0 65535=true∧(betw A 0 ((T.size:Int)-Wd)=false∧R=3∨betw A 0 ((T.size:Int)-Wd)=true∧0≤A∧A≤(T.size:Int)-Wd∧(A<E∧R=4∨E≤A∧R=0))))):=by
      rcases key with ⟨h0,h⟩ | ⟨h0,⟨h1,h⟩ | ⟨h1,h2,h⟩ | ⟨h1,h2,h3,h⟩ | ⟨h1,h2,h3,h4,h⟩ | ⟨h1,h2,h3,h4,⟨h5,h⟩ | ⟨h5,h6,h⟩ | ⟨h5,h6,h7,h⟩ | ⟨h5,h6,h7,h⟩⟩⟩
      ·exact .inl ⟨h0,h⟩
      all_goals refine .inr ⟨beq_eq_false_iff_ne.2 h0,?_⟩
      ·exact .inl ⟨Zar (.inl h1),h⟩
      ·exact .inl ⟨Zar (.inr (by omega)),h⟩
      all_goals refine .inr ⟨ZaL (by omega) (by omega),?_⟩
      ·exact .inl ⟨Zar (.inl h3),h⟩
      ·exact .inl ⟨Zar (.inr h4),h⟩
      all_goals refine .inr ⟨ZaL (by omega) (by omega),?_⟩
      ·exact .inl ⟨Zar (.inl h5),h⟩
      ·exact .inl ⟨Zar (.inr h6),h⟩
      ·exact .inr ⟨ZaL h5 h6,h5,h6,.inl ⟨h7,h⟩⟩
      ·exact .inr ⟨ZaL h5 h6,h5,h6,.inr ⟨h7,h⟩⟩
     clear key;obtain ⟨hw0,hw4⟩:=hwd;have ka5:∀ o,(wr.alloc o).cell? ⟨w.heap.size,5,none⟩=some (.slice pi is.length ki):=fun o=>cell_kept k5 (World.grownBy_alloc wr o none) (fun r e=>by cases e);have ka3:∀ o,(wr.alloc o).cell? ⟨w.heap.size,3,none⟩=some (.string T):=fun o=>cell_kept k3 (World.grownBy_alloc wr o none) (fun r e=>by cases e)
     rcases cases5 with ⟨rfl,rfl⟩ | ⟨h0,⟨q1,rfl⟩ | ⟨q1,⟨q2,rfl⟩ | ⟨q2,⟨q3,rfl⟩ | ⟨q3,a0,a1,⟨q4,rfl⟩ | ⟨q4,rfl⟩⟩⟩⟩⟩
     all_goals
      go_wp2_with (first
       | (go_at_call 112;refine (PW.out _).mono ?_;rintro e w' ⟨rfl,rfl⟩)
       | (go_at_call 109;refine (Zaj _ _ _ _).mono ?_;rintro e w' ⟨rfl,rfl⟩))
     case roundEnd=>
      exact ⟨⟨k+1,A+Wd,by omega,by go_num,rfl,by omega,by omega,HR.out,B2.alloc B2.size _⟩,by simp [intOf];omega⟩
     all_goals
      go_ret;exact ⟨by rw [HR.out];rfl,B1.trans ((B2.alloc B2.size _).mono B1.size)⟩
    ·obtain rfl:k=ps.length:=by omega
     have HZ:Hid (RES=0):=by
      show RES=0
      rw [HC.out,List.drop_length];rfl
     go_wp2;go_ret;exact ⟨by rw [HZ.out];rfl,B1.trans (B2.mono B1.size)⟩
theorem checkModule_any (M:Mod) (v:Value) (w:World) (hM:Zbf w.heap.size w v M) (hf:M.fits) :
  Calls Tryz.prog 49 #[v] w fun e w'=>e=.returned (.int .i64 (Zac M))∧Below w.heap.size w w':=by
 have key:=chkMod_cases M;rw [← Zcs] at key;obtain ⟨ve,vi,vp,rfl,hE,hI,hP⟩:=hM;have hE':=hE;have hI':=hI;have hP':=hP;obtain ⟨pe,ke,rfl,_,_⟩:=hE';obtain ⟨pi,ki,rfl,_,_⟩:=hI';obtain ⟨pp,kp,rfl,_,_⟩:=hP';obtain ⟨z1,z2,z3,z4⟩:=hf
 by_cases hgood:isNm M.name=true∧(M.name.toList == [107,101,114,110,101,108])=false∧Zcg M.major M.minor=true∧M.text.size≤256∧M.exps.length≤6∧M.imps.length≤6∧M.pats.length≤12∧M.text.size≠0∧M.text.size % 4=0∧Zay M.text.size [] M.exps=0
 ·obtain ⟨h1,h2,h3,t1,t2,t3,t4,h5,h6,h7⟩:=hgood
  have hv:betw M.major 0 255=true∧betw M.minor 0 255=true:=by simpa [Zcg] using h3
  have:=checkModule_good M pe pi pp ke ki kp w hE hI hP ⟨z1,z2,z3,z4⟩ h1 h2 hv.1 hv.2 t1 t2 t3 t4 (beq_eq_false_iff_ne.2 (by omega)) (decide_eq_false (by omega)) h7
  have e:Zac M=if chkImps [] M.imps≠0 then chkImps [] M.imps else Zbk M.text.size M.imps.length 0 M.pats:=by
   unfold Zac;rw [Zcs] at h2;rw [if_neg (by simp [h1,h2]),if_neg (by simp [h3]),if_neg (by omega),if_neg (by omega),if_neg (by simp [h7])]
  rwa [e]
 ·have HE:Hid (∀ w',Below w.heap.size w w'→M.exps.length≤6→M.text.size≤256→Calls Tryz.prog 110 #[.slice pe M.exps.length ke,.int .i64 M.text.size] w' fun e w''=>e=.returned (.int .i64 (Zay M.text.size [] M.exps))∧Below w'.heap.size w' w''):=
   fun w' hb hl ht=>checkExports_any M.exps _ M.text.size w' ((hE.below hb).more hb.size) z3 (by omega) (by omega) (by omega)
  have fin:(isNm M.name=false∧Zac M=1)∨(isNm M.name=true∧(M.name.toList == [107,101,114,110,101,108])=true∧Zac M=1)∨(isNm M.name=true∧(M.name.toList == [107,101,114,110,101,108])=false∧(betw M.major 0 255=false∧Zac M=3∨betw M.major 0 255=true∧(betw M.minor 0 255=false∧Zac M=3∨betw M.minor 0 255=true∧
    (256<M.text.size∧Zac M=2∨M.text.size≤256∧(6<M.exps.length∧Zac M=2∨M.exps.length≤6∧(6<M.imps.length∧Zac M=2∨M.imps.length≤6∧(12<M.pats.length∧Zac M=2∨M.pats.length≤12∧
     (M.text.size=0∧Zac M=1∨M.text.size≠0∧(M.text.size % 4≠0∧Zac M=1∨M.text.size % 4=0∧(Zay M.text.size [] M.exps≠0∧Zac M=Zay M.text.size [] M.exps)))))))))):=by
   rcases key with ⟨h1,h⟩ | ⟨h1,⟨h2,h⟩ | ⟨h2,key⟩⟩
   ·exact .inl ⟨h1,h⟩
   ·exact .inr (.inl ⟨h1,h2,h⟩)
   refine .inr (.inr ⟨h1,h2,?_⟩)
   rcases key with ⟨h3,h⟩ | ⟨h3,key⟩
   ·cases ha:betw M.major 0 255
    ·exact .inl ⟨rfl,h⟩
    ·cases hb:betw M.minor 0 255
     ·exact .inr ⟨rfl,.inl ⟨rfl,h⟩⟩
     ·rw [Zcg,ha,hb] at h3;cases h3
   have hv:betw M.major 0 255=true∧betw M.minor 0 255=true:=by simpa [Zcg] using h3
   refine .inr ⟨hv.1,.inr ⟨hv.2,?_⟩⟩
   rcases key with ⟨h4,h⟩ | ⟨h4,t1,t2,t3,t4,key⟩
   ·by_cases a1:256<M.text.size
    ·exact .inl ⟨a1,h⟩
    by_cases a2:6<M.exps.length
    ·exact .inr ⟨by omega,.inl ⟨a2,h⟩⟩
    by_cases a3:6<M.imps.length
    ·exact .inr ⟨by omega,.inr ⟨by omega,.inl ⟨a3,h⟩⟩⟩
    by_cases a4:12<M.pats.length
    ·exact .inr ⟨by omega,.inr ⟨by omega,.inr ⟨by omega,.inl ⟨a4,h⟩⟩⟩⟩
    ·exfalso
     unfold tooManyB at h4;rw [decide_eq_false (show ¬ 256<(M.text.size:Int) by omega),decide_eq_false (show ¬ 6<(M.exps.length:Int) by omega),decide_eq_false (show ¬ 6<(M.imps.length:Int) by omega),decide_eq_false (show ¬ 12<(M.pats.length:Int) by omega)] at h4
     cases h4
   refine .inr ⟨t1,.inr ⟨t2,.inr ⟨t3,.inr ⟨t4,?_⟩⟩⟩⟩
   rcases key with ⟨h5,h⟩ | ⟨h5,⟨h6,h⟩ | ⟨h6,⟨h7,h⟩ | ⟨h7,_⟩⟩⟩
   ·exact .inl ⟨h5,h⟩
   ·exact .inr ⟨by omega,.inl ⟨h6,h⟩⟩
   ·exact .inr ⟨by omega,.inr ⟨h6,h7,h⟩⟩
   ·exact absurd ⟨h1,h2,h3,t1,t2,t3,t4,by omega,h6,h7⟩ hgood
  clear key hgood hE hI hP z3 z4;generalize Zay M.text.size [] M.exps=ce at *;generalize Zac M=R at *;obtain ⟨N,a,b,T,es,is,ps⟩:=M;dsimp only at *
  rename_i q1 q2 q3
  clear q1 q2 q3;have HW1:Hid (Below w.heap.size w (w.alloc (.cells #[.string N,.int .i64 a,.int .i64 b,.string T,.slice pe es.length ke,.slice pi is.length ki,.slice pp ps.length kp] 31))):=(Below.refl _ _).alloc (Nat.le_refl _) _
  rcases fin with ⟨h1,rfl⟩ | ⟨h1,h2,rfl⟩ | ⟨h1,h2,⟨h3,rfl⟩ | ⟨h3,⟨h4,rfl⟩ | ⟨h4,⟨k1,rfl⟩ | ⟨k1,⟨k2,rfl⟩ | ⟨k2,⟨k3,rfl⟩ | ⟨k3,⟨k4,rfl⟩ | ⟨k4,⟨h5,rfl⟩ | ⟨h5,⟨h6,rfl⟩ | ⟨h6,h7,rfl⟩⟩⟩⟩⟩⟩⟩⟩⟩
  ·go_enter Tryz.func49,Tryz.ntmps49
   go_wp2_with (first
    | (go_at_call 108;refine (Zbc _ _ (by assumption)).mono ?_;rintro e w' ⟨rfl,rfl⟩)
    | (go_at_call 109;refine (Zaj _ _ _ _).mono ?_;rintro e w' ⟨rfl,rfl⟩))
   go_ret;exact ⟨rfl,HW1.out⟩
  ·go_enter Tryz.func49,Tryz.ntmps49
   go_wp2_with (first
    | (go_at_call 108;refine (Zbc _ _ (by assumption)).mono ?_;rintro e w' ⟨rfl,rfl⟩)
    | (go_at_call 109;refine (Zaj _ _ _ _).mono ?_;rintro e w' ⟨rfl,rfl⟩))
   go_ret;exact ⟨rfl,HW1.out⟩
  ·go_enter Tryz.func49,Tryz.ntmps49
   go_wp2_with (first
    | (go_at_call 108;refine (Zbc _ _ (by assumption)).mono ?_;rintro e w' ⟨rfl,rfl⟩)
    | (go_at_call 109;refine (Zaj _ _ _ _).mono ?_;rintro e w' ⟨rfl,rfl⟩))
   go_ret;exact ⟨rfl,HW1.out⟩
  ·go_enter Tryz.func49,Tryz.ntmps49
   go_wp2_with (first
    | (go_at_call 108;refine (Zbc _ _ (by assumption)).mono ?_;rintro e w' ⟨rfl,rfl⟩)
    | (go_at_call 109;refine (Zaj _ _ _ _).mono ?_;rintro e w' ⟨rfl,rfl⟩))
   go_ret;exact ⟨rfl,HW1.out⟩
  ·have gt:(256:Int)<T.size:=by omega
   go_enter Tryz.func49,Tryz.ntmps49
   go_wp2_with (first
    | (go_at_call 108;refine (Zbc _ _ (by assumption)).mono ?_;rintro e w' ⟨rfl,rfl⟩)
    | (go_at_call 109;refine (Zaj _ _ _ _).mono ?_;rintro e w' ⟨rfl,rfl⟩))
   go_ret;exact ⟨rfl,HW1.out⟩
  ·have g1:decide (256<(T.size:Int))=false:=decide_eq_false (by omega)
   have g1':decide (256<T.size)=false:=decide_eq_false (by omega);have gt:(6:Int)<es.length:=by omega
   go_enter Tryz.func49,Tryz.ntmps49
   go_wp2_with (first
    | (go_at_call 108;refine (Zbc _ _ (by assumption)).mono ?_;rintro e w' ⟨rfl,rfl⟩)
    | (go_at_call 109;refine (Zaj _ _ _ _).mono ?_;rintro e w' ⟨rfl,rfl⟩))
   go_ret;exact ⟨rfl,HW1.out⟩
  ·have g1:decide (256<(T.size:Int))=false:=decide_eq_false (by omega)
   have g1':decide (256<T.size)=false:=decide_eq_false (by omega);have g2:decide (6<(es.length:Int))=false:=decide_eq_false (by omega);have g2':decide (6<es.length)=false:=decide_eq_false (by omega);have gt:(6:Int)<is.length:=by omega
   go_enter Tryz.func49,Tryz.ntmps49
   go_wp2_with (first
    | (go_at_call 108;refine (Zbc _ _ (by assumption)).mono ?_;rintro e w' ⟨rfl,rfl⟩)
    | (go_at_call 109;refine (Zaj _ _ _ _).mono ?_;rintro e w' ⟨rfl,rfl⟩))
   go_ret;exact ⟨rfl,HW1.out⟩
  ·have g1:decide (256<(T.size:Int))=false:=decide_eq_false (by omega)
   have g1':decide (256<T.size)=false:=decide_eq_false (by omega);have g2:decide (6<(es.length:Int))=false:=decide_eq_false (by omega);have g2':decide (6<es.length)=false:=decide_eq_false (by omega);have g3:decide (6<(is.length:Int))=false:=decide_eq_false (by omega);have g3':decide (6<is.length)=false:=decide_eq_false (by omega);have gt:(12:Int)<ps.length:=by omega
   go_enter Tryz.func49,Tryz.ntmps49
   go_wp2_with (first
    | (go_at_call 108;refine (Zbc _ _ (by assumption)).mono ?_;rintro e w' ⟨rfl,rfl⟩)
    | (go_at_call 109;refine (Zaj _ _ _ _).mono ?_;rintro e w' ⟨rfl,rfl⟩))
   go_ret;exact ⟨rfl,HW1.out⟩
  ·have g1:decide (256<(T.size:Int))=false:=decide_eq_false (by omega)
   have g1':decide (256<T.size)=false:=decide_eq_false (by omega);have g2:decide (6<(es.length:Int))=false:=decide_eq_false (by omega);have g2':decide (6<es.length)=false:=decide_eq_false (by omega);have g3:decide (6<(is.length:Int))=false:=decide_eq_false (by omega);have g3':decide (6<is.length)=false:=decide_eq_false (by omega);have g4:decide (12<(ps.length:Int))=false:=decide_eq_false (by omega);have g4':decide (12<ps.length)=false:=decide_eq_false (by omega);have h5':((T.size:Int) == 0)=true:=by rw [beq_iff_eq];omega
   clear h5
   go_enter Tryz.func49,Tryz.ntmps49
   go_wp2_with (first
    | (go_at_call 108;refine (Zbc _ _ (by assumption)).mono ?_;rintro e w' ⟨rfl,rfl⟩)
    | (go_at_call 109;refine (Zaj _ _ _ _).mono ?_;rintro e w' ⟨rfl,rfl⟩))
   go_ret;exact ⟨rfl,HW1.out⟩
  ·have g1:decide (256<(T.size:Int))=false:=decide_eq_false (by omega)
   have g1':decide (256<T.size)=false:=decide_eq_false (by omega);have g2:decide (6<(es.length:Int))=false:=decide_eq_false (by omega);have g2':decide (6<es.length)=false:=decide_eq_false (by omega);have g3:decide (6<(is.length:Int))=false:=decide_eq_false (by omega);have g3':decide (6<is.length)=false:=decide_eq_false (by omega);have g4:decide (12<(ps.length:Int))=false:=decide_eq_false (by omega);have g4':decide (12<ps.length)=false:=decide_eq_false (by omega);have h5':((T.size:Int) == 0)=false:=beq_eq_false_iff_ne.2 (by omega);have h6':0<(T.size:Int) % 4:=by omega
   clear h5 h6
   go_enter Tryz.func49,Tryz.ntmps49
   go_wp2_with (first
    | (go_at_call 108;refine (Zbc _ _ (by assumption)).mono ?_;rintro e w' ⟨rfl,rfl⟩)
    | (go_at_call 109;refine (Zaj _ _ _ _).mono ?_;rintro e w' ⟨rfl,rfl⟩))
   go_ret;exact ⟨rfl,HW1.out⟩
  ·have g1:decide (256<(T.size:Int))=false:=decide_eq_false (by omega)
   have g1':decide (256<T.size)=false:=decide_eq_false (by omega);have g2:decide (6<(es.length:Int))=false:=decide_eq_false (by omega);have g2':decide (6<es.length)=false:=decide_eq_false (by omega);have g3:decide (6<(is.length:Int))=false:=decide_eq_false (by omega);have g3':decide (6<is.length)=false:=decide_eq_false (by omega);have g4:decide (12<(ps.length:Int))=false:=decide_eq_false (by omega);have g4':decide (12<ps.length)=false:=decide_eq_false (by omega);have h5':((T.size:Int) == 0)=false:=beq_eq_false_iff_ne.2 (by omega);have h6':decide (0<(T.size:Int) % 4)=false:=decide_eq_false (by omega);have h7':(R != 0)=true:=by simpa using h7
   clear h5 h6 h7
   go_enter Tryz.func49,Tryz.ntmps49
   go_wp2_with (first
    | (go_at_call 108;refine (Zbc _ _ (by assumption)).mono ?_;rintro e w' ⟨rfl,rfl⟩)
    | (go_at_call 109;refine (Zaj _ _ _ _).mono ?_;rintro e w' ⟨rfl,rfl⟩))
   refine (HE.out _ HW1.out k2 k1).mono ?_;rintro e w1 ⟨rfl,b1⟩;go_wp2;go_ret;exact ⟨rfl,HW1.out.trans (b1.mono HW1.out.size)⟩
end Go.Proofs.YtlpnfbpgnfappaaGreat
