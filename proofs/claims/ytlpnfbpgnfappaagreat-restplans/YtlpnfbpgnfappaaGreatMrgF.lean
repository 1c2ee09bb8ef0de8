/- Texts that are laid together. -/
import Derived.Test.YtlpnfbpgnfappaaGreatMrgD
import Derived.PlainAid
import Derived.MapKept
import Derived.Test.YtlpnfbpgnfappaaGreatMrgA
import Derived.Test.YtlpnfbpgnfappaaGreatMrgE
import Derived.Test.YtlpnfbpgnfappaaGreatMrgB
set_option maxHeartbeats 256000000
set_option maxRecDepth 100000

namespace Go.Proofs.YtlpnfbpgnfappaaGreat
open Go.RowKit Go.PlainAid
theorem value_good (kind sym add place wd n R E:Int) (fits:Bool) (g:FuncId) (w:World) (hK:∀ w x y,Sem.run Tryz.prog (callFunc g #[x,y]) w=.ok (.enter g #[x,y]) w) (s0:0≤sym) (s1:sym≤65535) (a0:0≤add) (a1:add≤65535) (h1:betw sym 0 65535=true) (h2:betw place 0 65535=true)
  (HW:Hid (∀ w,Calls Tryz.prog 240 #[.int .i64 kind] w fun e w'=>e=.returned (.tuple #[.int .i64 wd,.int .i64 0])∧w'=w))
  (HF:Hid (∀ w,Calls Tryz.prog 246 #[.int .i64 kind] w fun e w'=>e=.returned (.agg #[.int .i64 kind,.func (.func g) #[] #[]])∧Below w.heap.size w w'))
  (HG:Hid (∀ w,Calls Tryz.prog g #[.int .i64 (sym+add),.int .i64 place] w fun e w'=>e=.returned (.tuple #[.int .i64 n,.bool fits])∧w'=w))
  (n0:-65535≤n) (hres:(fits=false∧R=0∧E=4)∨(fits=true∧0≤n∧R=n∧E=0)∨(fits=true∧n<0∧wd=4∧R=n+4294967296∧E=0)∨(fits=true∧n<0∧wd=3∧R=n+16777216∧E=0)) :
  Calls Tryz.prog 241 #[.int .i64 kind,.int .i64 sym,.int .i64 add,.int .i64 place] w fun e w'=>e=.returned (.tuple #[.int .i64 R,.int .i64 E])∧Below w.heap.size w w':=by
 have hfd:∀ w:World,(Instr.field 273 (.agg #[.int .i64 kind,.func (.func g) #[] #[]]) 1).run Tryz.prog w=.ok (.func (.func g) #[] #[]) w:=fun _=>by kernel_rfl
 rcases hres with ⟨rfl,rfl,rfl⟩ | ⟨rfl,hn,rfl,rfl⟩ | ⟨rfl,hn,rfl,rfl,rfl⟩ | ⟨rfl,hn,rfl,rfl,rfl⟩
 all_goals
  go_enter Tryz.func241,Tryz.ntmps241
  go_wp2_with (first | (go_at_call 240;refine (HW.out _).mono ?_;rintro e w' ⟨rfl,rfl⟩) | (go_at_call 245;refine (Zct _ _).mono ?_;rintro e w' ⟨rfl,rfl⟩));refine (HF.out _).mono ?_;rintro e w1 ⟨rfl,b1⟩;go_wp2_with fail;refine Calls.mono (HG.out _) ?_;rintro e w2 ⟨rfl,rfl⟩;go_wp2;go_ret2;exact ⟨rfl,b1⟩
theorem value_any (kind sym add place:Int) (w:World) :
  Calls Tryz.prog 241 #[.int .i64 kind,.int .i64 sym,.int .i64 add,.int .i64 place] w fun e w'=>e=.returned (.tuple #[.int .i64 (ZbB kind sym add place),.int .i64 (Zb kind sym add place)])∧Below w.heap.size w w':=by
 rcases val_cases kind sym add place with ⟨h0,hE,hN⟩ | ⟨h0,hr,hE,hN⟩ | ⟨hr,key⟩
 ·rw [hE,hN]
  have HW:Hid (∀ w,Calls Tryz.prog 240 #[.int .i64 kind] w fun e w'=>e=.returned (.tuple #[.int .i64 0,.int .i64 7])∧w'=w):=fun w=>by
   have:=Zbs kind w
   rwa [widthErr,if_pos h0,h0] at this
  clear h0 hE hN
  go_enter Tryz.func241,Tryz.ntmps241
  go_wp2_with (go_at_call 240;refine (HW.out _).mono ?_;rintro e w' ⟨rfl,rfl⟩);go_ret2;exact ⟨rfl,Below.refl _ _⟩
 ·rw [hE,hN]
  have HW:Hid (∀ w,Calls Tryz.prog 240 #[.int .i64 kind] w fun e w'=>e=.returned (.tuple #[.int .i64 (width kind),.int .i64 0])∧w'=w):=fun w=>by
   have:=Zbs kind w
   rwa [widthErr,if_neg h0] at this
  clear h0 hE hN;generalize width kind=wd at HW;unfold Zcn at hr
  cases h1:betw sym 0 65535
  ·clear hr
   go_enter Tryz.func241,Tryz.ntmps241
   go_wp2_with (first | (go_at_call 240;refine (HW.out _).mono ?_;rintro e w' ⟨rfl,rfl⟩) | (go_at_call 245;refine (Zct _ _).mono ?_;rintro e w' ⟨rfl,rfl⟩));go_ret2;exact ⟨rfl,Below.refl _ _⟩
  cases h2:betw place 0 65535
  ·clear hr
   go_enter Tryz.func241,Tryz.ntmps241
   go_wp2_with (first | (go_at_call 240;refine (HW.out _).mono ?_;rintro e w' ⟨rfl,rfl⟩) | (go_at_call 245;refine (Zct _ _).mono ?_;rintro e w' ⟨rfl,rfl⟩));go_ret2;exact ⟨rfl,Below.refl _ _⟩
  rw [h1,h2] at hr;have h3:=betw_not (n:=add) (l:=0) (m:=65535) (by simpa using hr);clear hr
  by_cases h4:add<0
  ·go_enter Tryz.func241,Tryz.ntmps241
   go_wp2_with (first | (go_at_call 240;refine (HW.out _).mono ?_;rintro e w' ⟨rfl,rfl⟩) | (go_at_call 245;refine (Zct _ _).mono ?_;rintro e w' ⟨rfl,rfl⟩));go_ret2;exact ⟨rfl,Below.refl _ _⟩
  ·have h5:65535<add:=by omega
   clear h3
   go_enter Tryz.func241,Tryz.ntmps241
   go_wp2_with (first | (go_at_call 240;refine (HW.out _).mono ?_;rintro e w' ⟨rfl,rfl⟩) | (go_at_call 245;refine (Zct _ _).mono ?_;rintro e w' ⟨rfl,rfl⟩));go_ret2;exact ⟨rfl,Below.refl _ _⟩
 ·obtain ⟨s0,s1,p0,p1,a0,a1⟩:=valRange_true hr
  have h1:betw sym 0 65535=true:=ZaL s0 s1;have h2:betw place 0 65535=true:=ZaL p0 p1;clear hr
  rcases key with ⟨rfl,hE,hN⟩ | ⟨rfl,hE,hN⟩ | ⟨rfl,hE,hN⟩ | ⟨rfl,hE,hN⟩ | ⟨rfl,hp,hE,hN⟩ | ⟨rfl,hp,hE,hN⟩
  all_goals rw [hE,hN];clear hE hN
  ·exact value_good 1 sym add place 4 (sym+add) _ _ true 250 w (fun w x y=>enters_of Tryz.func250 (by kernel_rfl) rfl _ w) s0 s1 a0 a1 h1 h2 (fun w=>Zbs 1 w) (fun w=>Zc 1 (by omega) (by omega) w) (fun w=>formula1_any _ _ w) (by omega) (.inr (.inl ⟨rfl,by omega,rfl,rfl⟩))
  ·refine value_good 2 sym add place 4 (sym+add-place) _ _ true 251 w (fun w x y=>enters_of Tryz.func251 (by kernel_rfl) rfl _ w) s0 s1 a0 a1 h1 h2 (fun w=>Zbs 2 w) (fun w=>Zc 2 (by omega) (by omega) w) (fun w=>formula2_any _ _ (by omega) (by omega) p0 p1 w) (by omega) ?_
   by_cases hneg:sym+add-place<0
   ·exact .inr (.inr (.inl ⟨rfl,hneg,rfl,by omega,rfl⟩))
   ·exact .inr (.inl ⟨rfl,by omega,by omega,rfl⟩)
  ·exact value_good 3 sym add place 2 ((sym+add) / 65536) _ _ true 252 w (fun w x y=>enters_of Tryz.func252 (by kernel_rfl) rfl _ w) s0 s1 a0 a1 h1 h2 (fun w=>Zbs 3 w) (fun w=>Zc 3 (by omega) (by omega) w) (fun w=>formula3_any _ _ w) (by omega) (.inr (.inl ⟨rfl,by omega,rfl,rfl⟩))
  ·exact value_good 4 sym add place 2 ((sym+add) % 65536) _ _ true 253 w (fun w x y=>enters_of Tryz.func253 (by kernel_rfl) rfl _ w) s0 s1 a0 a1 h1 h2 (fun w=>Zbs 4 w) (fun w=>Zc 4 (by omega) (by omega) w) (fun w=>formula4_any _ _ (by omega) (by omega) w) (by omega) (.inr (.inl ⟨rfl,by omega,rfl,rfl⟩))
  ·have hb:=tdiv2_bd (sym+add-place)
   refine value_good 5 sym add place 3 ((sym+add-place).tdiv 2) _ _ ((sym+add-place).tmod 2 == 0) 254 w (fun w x y=>enters_of Tryz.func254 (by kernel_rfl) rfl _ w) s0 s1 a0 a1 h1 h2 (fun w=>Zbs 5 w) (fun w=>Zc 5 (by omega) (by omega) w) (fun w=>formula5_any _ _ (by omega) (by omega) p0 p1 w) (by omega) ?_;exact .inl ⟨by rw [tmod2_even,hp];rfl,rfl,rfl⟩
  ·have hb:=tdiv2_bd (sym+add-place)
   have he:=tdiv2_even _ hp;refine value_good 5 sym add place 3 ((sym+add-place).tdiv 2) _ _ ((sym+add-place).tmod 2 == 0) 254 w (fun w x y=>enters_of Tryz.func254 (by kernel_rfl) rfl _ w) s0 s1 a0 a1 h1 h2 (fun w=>Zbs 5 w) (fun w=>Zc 5 (by omega) (by omega) w) (fun w=>formula5_any _ _ (by omega) (by omega) p0 p1 w) (by omega) ?_;have ht:((sym+add-place).tmod 2 == 0)=true:=by rw [tmod2_even,hp];rfl
   rw [ht,he]
   by_cases hneg:sym+add-place<0
   ·exact .inr (.inr (.inr ⟨rfl,by omega,rfl,by omega,rfl⟩))
   ·exact .inr (.inl ⟨rfl,by omega,by omega,rfl⟩)
def ZaJ (len:Int) (p:Pat) (sym base:Int):Int:=
 if width p.kind=0 then 7 else if (betw p.add 0 65535 && betw p.pos 0 (len-width p.kind) && betw base 0 65279)=false then 3 else Zb p.kind sym p.add (base+p.pos)
def Zbm (s:ByteArray) (p:Pat) (sym base:Int):ByteArray:=
 if ZaJ s.size p sym base=0 then putS s p.pos.toNat (width p.kind).toNat (ZbB p.kind sym p.add (base+p.pos)) else ⟨#[]⟩
theorem valErr_add {kind sym add place:Int} (h:width kind≠0) (ha:betw add 0 65535=false):Zb kind sym add place=3:=by
 unfold Zb Zcn;rw [if_neg h,ha]
 simp
theorem app_cases (s:ByteArray) (p:Pat) (sym base:Int) :
  (width p.kind=0∧ZaJ s.size p sym base=7∧Zbm s p sym base=⟨#[]⟩)∨
  (width p.kind≠0∧(p.pos<0∨0≤p.pos∧s.size-width p.kind<p.pos∨0≤p.pos∧p.pos≤s.size-width p.kind∧base<0∨0≤p.pos∧p.pos≤s.size-width p.kind∧0≤base∧65279<base)∧ZaJ s.size p sym base=3∧Zbm s p sym base=⟨#[]⟩)∨
  (width p.kind≠0∧0≤p.pos∧p.pos≤s.size-width p.kind∧0≤base∧base≤65279∧
   (Zb p.kind sym p.add (base+p.pos)≠0∧ZaJ s.size p sym base=Zb p.kind sym p.add (base+p.pos)∧Zbm s p sym base=⟨#[]⟩∨
   Zb p.kind sym p.add (base+p.pos)=0∧ZaJ s.size p sym base=0∧Zbm s p sym base=putS s p.pos.toNat (width p.kind).toNat (ZbB p.kind sym p.add (base+p.pos)))):=by
 have hS:ZaJ s.size p sym base≠0→Zbm s p sym base=⟨#[]⟩:=fun h=>by rw [Zbm,if_neg h]
 have hS':ZaJ s.size p sym base=0→Zbm s p sym base=putS s p.pos.toNat (width p.kind).toNat (ZbB p.kind sym p.add (base+p.pos)):=fun h=>by rw [Zbm,if_pos h]
 by_cases h0:width p.kind=0
 ·have e:ZaJ s.size p sym base=7:=by rw [ZaJ,if_pos h0]
  exact .inl ⟨h0,e,hS (by rw [e];decide)⟩
 by_cases h1:p.pos<0∨0≤p.pos∧s.size-width p.kind<p.pos∨0≤p.pos∧p.pos≤s.size-width p.kind∧base<0∨0≤p.pos∧p.pos≤s.size-width p.kind∧0≤base∧65279<base
 ·have e:ZaJ s.size p sym base=3:=by
   rw [ZaJ,if_neg h0,if_pos]
   rcases h1 with h | h | h | h
   ·rw [Zar (n:=p.pos) (.inl h)];simp
   ·rw [Zar (n:=p.pos) (.inr h.2)];simp
   ·rw [Zar (n:=base) (.inl h.2.2)];simp
   ·rw [Zar (n:=base) (.inr h.2.2.2)];simp
  exact .inr (.inl ⟨h0,h1,e,hS (by rw [e];decide)⟩)
 ·have g1:betw p.pos 0 (s.size-width p.kind)=true:=ZaL (by omega) (by omega)
  have g2:betw base 0 65279=true:=ZaL (by omega) (by omega);have e:ZaJ s.size p sym base=Zb p.kind sym p.add (base+p.pos):=by
   rw [ZaJ,if_neg h0,g1,g2]
   cases ha:betw p.add 0 65535
   ·rw [if_pos (by rfl),valErr_add h0 ha]
   ·rw [if_neg (by decide)]
  refine .inr (.inr ⟨h0,by omega,by omega,by omega,by omega,?_⟩)
  by_cases hv:Zb p.kind sym p.add (base+p.pos)=0
  ·exact .inr ⟨hv,e.trans hv,hS' (e.trans hv)⟩
  ·exact .inl ⟨hv,e,hS (by rw [e];exact hv)⟩
theorem apply_any (s:ByteArray) (p:Pat) (sym base:Int) (w:World) (hs:s.size≤140737488351232) :
  Calls Tryz.prog 229 #[.string s,.agg #[.int .i64 p.kind,.int .i64 p.pos,.int .i64 p.sym,.int .i64 p.add],.int .i64 sym,.int .i64 base] w fun e w'=>e=.returned (.tuple #[.string (Zbm s p sym base),.int .i64 (ZaJ s.size p sym base)])∧Below w.heap.size w w':=by
 have key:=app_cases s p sym base;have HV:Hid (∀ w,Calls Tryz.prog 241 #[.int .i64 p.kind,.int .i64 sym,.int .i64 p.add,.int .i64 (base+p.pos)] w fun e w'=>e=.returned (.tuple #[.int .i64 (ZbB p.kind sym p.add (base+p.pos)),.int .i64 (Zb p.kind sym p.add (base+p.pos))])∧Below w.heap.size w w'):=fun w=>value_any _ _ _ _ w;have HW:Hid (∀ w,Calls Tryz.prog 240 #[.int .i64 p.kind] w fun e w'=>e=.returned (.tuple #[.int .i64 (width p.kind),.int .i64 (widthErr p.kind)])∧w'=w):=fun w=>Zbs _ w;have hwe:widthErr p.kind=if width p.kind=0 then 7 else 0:=rfl;have HP:Hid (0≤p.pos→p.pos≤s.size-width p.kind→width p.kind≠0→∀ w,Calls Tryz.prog 167 #[.string s,.int .i64 p.pos,.int .i64 (width p.kind),.int .i64 (ZbB p.kind sym p.add (base+p.pos))] w fun e w'=>
   e=.returned (.tuple #[.string (putS s p.pos.toNat (width p.kind).toNat (ZbB p.kind sym p.add (base+p.pos))),.int .i64 0])∧Below w.heap.size w w'):=fun g0 g1 g2 w=>by
  have hb:=width_bd p.kind;have hz:ZaZ s.size p.pos (width p.kind)=0:=by unfold ZaZ;rw [if_neg (by omega),if_neg (by omega)]
  have:=put_any s p.pos (width p.kind) (ZbB p.kind sym p.add (base+p.pos)) w hs
  rwa [putR,if_pos hz,hz] at this
 have hwb:=width_bd p.kind;obtain ⟨K,A,S,D⟩:=p;dsimp only at *;generalize ZaJ s.size ⟨K,A,S,D⟩ sym base=RE at *;generalize Zbm s ⟨K,A,S,D⟩ sym base=RS at *;generalize putS s A.toNat (width K).toNat (ZbB K sym D (base+A))=PS at *;generalize ZbB K sym D (base+A)=vn at *;generalize Zb K sym D (base+A)=ve at *;generalize widthErr K=we at *;generalize width K=wd at *
 rcases key with ⟨rfl,rfl,rfl⟩ | ⟨h0,h1,rfl,rfl⟩ | ⟨h0,q1,q2,q3,q4,⟨h2,rfl,rfl⟩ | ⟨rfl,rfl,rfl⟩⟩
 ·rw [if_pos rfl] at hwe
  subst hwe
  go_enter Tryz.func229,Tryz.ntmps229
  go_wp2_with (go_at_call 240;refine (HW.out _).mono ?_;rintro e w' ⟨rfl,rfl⟩);go_ret2;exact ⟨rfl,(Below.refl _ _).alloc (Nat.le_refl _) _⟩
 ·rw [if_neg h0] at hwe
  subst hwe
  rcases h1 with h1 | ⟨h1,h2⟩ | ⟨h1,h2,h3⟩ | ⟨h1,h2,h3,h4⟩
  all_goals
   go_enter Tryz.func229,Tryz.ntmps229
   go_wp2_with (go_at_call 240;refine (HW.out _).mono ?_;rintro e w' ⟨rfl,rfl⟩);go_ret2;exact ⟨rfl,(Below.refl _ _).alloc (Nat.le_refl _) _⟩
 ·rw [if_neg h0] at hwe
  subst hwe;have h3:(RE != 0)=true:=by simpa using h2
  go_enter Tryz.func229,Tryz.ntmps229
  go_wp2_with (go_at_call 240;refine (HW.out _).mono ?_;rintro e w' ⟨rfl,rfl⟩);refine (HV.out _).mono ?_;rintro e w1 ⟨rfl,b1⟩;go_wp2;go_ret2;exact ⟨rfl,((Below.refl _ _).alloc (Nat.le_refl _) _).trans (b1.mono (by simp))⟩
 ·rw [if_neg h0] at hwe
  subst hwe
  go_enter Tryz.func229,Tryz.ntmps229
  go_wp2_with (go_at_call 240;refine (HW.out _).mono ?_;rintro e w' ⟨rfl,rfl⟩);refine (HV.out _).mono ?_;rintro e w1 ⟨rfl,b1⟩;have B1:=((Below.refl w.heap.size w).alloc (Nat.le_refl _) (.cells #[.int .i64 K,.int .i64 A,.int .i64 S,.int .i64 D] 113)).trans (b1.mono (by simp));have c1:w1.cell? ⟨w.heap.size,1,none⟩=some (.int .i64 A):=by
   have:=b1.cell (p:=⟨w.heap.size,1,none⟩) (by simp)
   rw [this];simp
  go_wp2_with fail;refine (HP.out q1 q2 h0 _).mono ?_;rintro e w2 ⟨rfl,b2⟩;go_wp2;go_ret2;exact ⟨rfl,B1.trans (b2.mono B1.size)⟩
def Zag {α:Type} (p:α→Bool) (k:Nat):List α→Int
 | []=>-1
 | x::l=>if p x then (k:Int) else Zag p (k+1) l
theorem ix_find {α:Type} (p:α→Bool):∀ (l:List α) (k:Nat),(l.find? p=none∧Zag p k l = -1)∨∃ j x,l.find? p=some x∧l[j]?=some x∧Zag p k l=((k+j:Nat):Int)
 | [],_=>.inl ⟨rfl,rfl⟩
 | y::l,k=>by
  unfold Zag
  cases hy:p y
  ·rcases ix_find p l (k+1) with ⟨h1,h2⟩ | ⟨j,x,h1,h2,h3⟩
   ·exact .inl ⟨by rw [List.find?_cons,hy];exact h1,by simpa using h2⟩
   ·refine .inr ⟨j+1,x,by rw [List.find?_cons,hy];exact h1,by simpa using h2,?_⟩
    rw [if_neg (by decide),h3]
    congr 1;omega
  ·exact .inr ⟨0,y,by rw [List.find?_cons,hy],rfl,by simp⟩
def Via (E:Nat→Nat→Prop) (i k:Nat):Prop:=∀ S:Nat→Prop,(∀ q,E i q→S q)→(∀ j q,S j→E j q→S q)→S k
theorem Via.one {E:Nat→Nat→Prop} {i k:Nat} (e:E i k):Via E i k:=fun _ h0 _=>h0 _ e
theorem Via.more {E:Nat→Nat→Prop} {i j k:Nat} (h:Via E i j) (e:E j k):Via E i k:=fun S h0 h1=>h1 _ _ (h S h0 h1) e
theorem Via.walk {E:Nat→Nat→Prop} {i:Nat} {M:Nat→Prop} (one:∀ k,E i k→M k) (more:∀ j k,Via E i j→M j→E j k→M k) {k:Nat} (h:Via E i k):M k:=
 (h (fun q=>Via E i q∧M q) (fun q e=>⟨.one e,one q e⟩) (fun j q hj e=>⟨hj.1.more e,more j q hj.1 hj.2 e⟩)).2
theorem Via.trans {E:Nat→Nat→Prop} {i j k:Nat} (h:Via E i j) (g:Via E j k):Via E i k:=
 g.walk (M:=fun k=>Via E i k) (fun _ e=>h.more e) (fun _ _ _ ih e=>ih.more e)
theorem Via.turn {E:Nat→Nat→Prop} {i k:Nat} (h:Via E i k):Via (fun a b=>E b a) k i:=
 h.walk (M:=fun k=>Via (fun a b=>E b a) k i) (fun _ e=>.one e) (fun _ _ _ ih e=>Via.trans (.one e) ih)
theorem Via.closed {E:Nat→Nat→Prop} {S:Nat→Prop} {i:Nat} (h0:∀ k,E i k→S k) (hS:∀ j k,S j→E j k→S k) {k:Nat} (h:Via E i k):S k:=h S h0 hS
def ViaB (E:Nat→Nat→Prop) (m i k:Nat):Prop:=∀ S:Nat→Prop,(∀ q,E i q→S q)→(∀ j q,S j→j<m→E j q→S q)→S k
theorem ViaB.one {E:Nat→Nat→Prop} {m i k:Nat} (e:E i k):ViaB E m i k:=fun _ h0 _=>h0 _ e
theorem ViaB.more {E:Nat→Nat→Prop} {m i j k:Nat} (h:ViaB E m i j) (hj:j<m) (e:E j k):ViaB E m i k:=fun S h0 h1=>h1 _ _ (h S h0 h1) hj e
theorem ViaB.none {E:Nat→Nat→Prop} {i k:Nat} (h:ViaB E 0 i k):E i k:=h (fun q=>E i q) (fun _ e=>e) (fun _ _ _ hj _=>absurd hj (by omega))
theorem ViaB.part {E:Nat→Nat→Prop} {m i k:Nat} (h:ViaB E (m+1) i k):ViaB E m i k∨(ViaB E m i m∧ViaB E m m k):=by
 refine h (fun q=>ViaB E m i q∨(ViaB E m i m∧ViaB E m m q)) (fun q e=>.inl (.one e)) (fun j q ih hj e=>?_)
 by_cases hjm:j=m
 ·subst hjm
  rcases ih with ih | ⟨ih,_⟩
  ·exact .inr ⟨ih,.one e⟩
  ·exact .inr ⟨ih,.one e⟩
 ·rcases ih with ih | ⟨ih1,ih2⟩
  ·exact .inl (ih.more (by omega) e)
  ·exact .inr ⟨ih1,ih2.more (by omega) e⟩
theorem Via.bound {E:Nat→Nat→Prop} {n i k:Nat} (hE:∀ i k,E i k→i<n) (h:Via E i k):ViaB E n i k:=
 h.walk (M:=fun k=>ViaB E n i k) (fun _ e=>.one e) (fun _ _ _ ih e=>ih.more (hE _ _ e) e)
structure Fill (E:Nat→Nat→Prop) (n m i k:Nat) (T:Nat→Nat→Bool):Prop where
 snd:∀ a b,a<n→b<n→T a b=true→Via E a b
 low:∀ a b,a<n→b<n→ViaB E m a b→T a b=true
 row:∀ a b,a<n→b<n→a<i→ViaB E (m+1) a b→T a b=true
 cel:∀ b,i<n→b<n→b<k→ViaB E (m+1) i b→T i b=true
def setT (T:Nat→Nat→Bool) (i k:Nat) (v:Bool):Nat→Nat→Bool:=fun a b=>if a=i∧b=k then v else T a b
theorem setT_at (T:Nat→Nat→Bool) (i k:Nat) (v:Bool):setT T i k v i k=v:=by unfold setT;rw [if_pos ⟨rfl,rfl⟩]
theorem setT_ne {T:Nat→Nat→Bool} {i k a b:Nat} {v:Bool} (h:¬ (a=i∧b=k)):setT T i k v a b=T a b:=by unfold setT;rw [if_neg h]
theorem setT_grow {T:Nat→Nat→Bool} {i k a b:Nat} {v:Bool} (hv:T i k=true→v=true) (h:T a b=true):setT T i k v a b=true:=by
 by_cases e:a=i∧b=k
 ·obtain ⟨rfl,rfl⟩:=e
  rw [setT_at];exact hv h
 ·rw [setT_ne e];exact h
theorem Fill.step {E:Nat→Nat→Prop} {n m i k:Nat} {T:Nat→Nat→Bool} (h:Fill E n m i k T) (hm:m<n) (hi:i<n) (hk:k<n):Fill E n m i (k+1) (setT T i k (T i k || (T i m && T m k))):=by
 have hv:T i k=true→(T i k || (T i m && T m k))=true:=fun h=>by rw [h];rfl
 refine ⟨fun a b ha hb hT=>?_,fun a b ha hb hV=>setT_grow hv (h.low a b ha hb hV),fun a b ha hb hai hV=>setT_grow hv (h.row a b ha hb hai hV),fun b hi' hb hbk hV=>?_⟩
 ·by_cases e:a=i∧b=k
  ·obtain ⟨rfl,rfl⟩:=e
   rw [setT_at,Bool.or_eq_true,Bool.and_eq_true] at hT
   rcases hT with hT | ⟨h1,h2⟩
   ·exact h.snd _ _ ha hb hT
   ·exact (h.snd _ _ ha hm h1).trans (h.snd _ _ hm hb h2)
  ·rw [setT_ne e] at hT
   exact h.snd a b ha hb hT
 ·by_cases e:b=k
  ·subst e
   rw [setT_at,Bool.or_eq_true,Bool.and_eq_true]
   rcases hV.part with h1 | ⟨h1,h2⟩
   ·exact .inl (h.low _ _ hi hb h1)
   ·exact .inr ⟨h.low _ _ hi hm h1,h.low _ _ hm hb h2⟩
  ·exact setT_grow hv (h.cel b hi' hb (by omega) hV)
theorem Fill.nextRow {E:Nat→Nat→Prop} {n m i:Nat} {T:Nat→Nat→Bool} (h:Fill E n m i n T):Fill E n m (i+1) 0 T:=
 ⟨h.snd,h.low,fun a b ha hb hai hV=>by
  by_cases e:a=i
  ·subst e;exact h.cel b ha hb hb hV
  ·exact h.row a b ha hb (by omega) hV,fun b _ _ hb _=>by omega⟩
theorem Fill.nextNum {E:Nat→Nat→Prop} {n m:Nat} {T:Nat→Nat→Bool} (h:Fill E n m n 0 T):Fill E n (m+1) 0 0 T:=
 ⟨h.snd,fun a b ha hb hV=>h.row a b ha hb ha hV,fun a b _ _ ha _=>by omega,fun b _ _ hb _=>by omega⟩
theorem Fill.start {E:Nat→Nat→Prop} {n:Nat} {T:Nat→Nat→Bool} (h:∀ a b,a<n→b<n→(T a b=true↔E a b)):Fill E n 0 0 0 T:=
 ⟨fun a b ha hb hT=>.one ((h a b ha hb).1 hT),fun a b ha hb hV=>(h a b ha hb).2 hV.none,fun a b _ _ ha _=>by omega,fun b _ _ hb _=>by omega⟩
theorem Fill.all {E:Nat→Nat→Prop} {n:Nat} {T:Nat→Nat→Bool} (h:Fill E n n 0 0 T) (hE:∀ i k,E i k→i<n) {a b:Nat} (ha:a<n) (hb:b<n):T a b=true↔Via E a b:=
 ⟨h.snd a b ha hb,fun hV=>h.low a b ha hb (hV.bound hE)⟩
def Ahead (a b:ByteArray):Prop:=a.data.toList<b.data.toList
theorem bytes_ext {a b:ByteArray} (h:a.data.toList=b.data.toList):a=b:=ByteArray.ext (Array.toList_inj.1 h)
theorem Ahead.irrefl (a:ByteArray):¬ Ahead a a:=List.lt_irrefl _
theorem Ahead.trans {a b c:ByteArray} (h:Ahead a b) (g:Ahead b c):Ahead a c:=List.lt_trans h g
theorem Ahead.asymm {a b:ByteArray} (h:Ahead a b) (g:Ahead b a):False:=Ahead.irrefl a (h.trans g)
theorem Ahead.total (a b:ByteArray):Ahead a b∨a=b∨Ahead b a:=by
 by_cases h1:a.data.toList<b.data.toList
 ·exact .inl h1
 by_cases h2:b.data.toList<a.data.toList
 ·exact .inr (.inr h2)
 ·exact .inr (.inl (bytes_ext (List.le_antisymm (List.not_lt.1 h2) (List.not_lt.1 h1))))
def Rising (ss:List ByteArray):Prop:=ss.Pairwise Ahead
theorem Ahead.ne {a b:ByteArray} (h:Ahead a b):a≠b:=fun e=>Ahead.irrefl a (by rw [← e] at h;exact h)
theorem Rising.nodup {ss:List ByteArray} (h:Rising ss):ss.Nodup:=List.Pairwise.imp Ahead.ne h
theorem Rising.same {a b:List ByteArray} (ha:Rising a) (hb:Rising b) (h:∀ x,x∈a↔x∈b):a=b:=
 List.Perm.eq_of_pairwise (le:=Ahead) (fun _ _ _ _ h1 h2=>(h1.asymm h2).elim) ha hb ((List.perm_ext_iff_of_nodup ha.nodup hb.nodup).2 h)
theorem full_mem {α:Type} {l₁ l₂:List α} (d:l₁.Nodup) (s:∀ x∈l₁,x∈l₂) (h:l₂.length≤l₁.length):∀ x∈l₂,x∈l₁:=by
 intro x hx;refine Classical.byContradiction fun hn=>?_;have h1:(x::l₁).length≤l₂.length:=List.Nodup.length_le_of_subset (List.nodup_cons.2 ⟨hn,d⟩) (fun y hy=>by
  rcases List.mem_cons.1 hy with rfl | hy
  ·exact hx
  ·exact s y hy)
 simp at h1
 omega
theorem any_mem {met:List ByteArray} {n:ByteArray}:(met.any fun y=>y == n)=true↔n∈met:=by
 rw [List.any_eq_true]
 constructor
 ·rintro ⟨x,hx,he⟩
  rw [← (Go.MapKept.bytes_beq x n).1 he];exact hx
 ·exact fun h=>⟨n,h,(Go.MapKept.bytes_beq n n).2 rfl⟩
def Zcw (m:Mod) (n:ByteArray):Bool:=m.imps.any fun i=>i.mod == n
def waitsB (met:List ByteArray) (m:Mod):Bool:=!(met.any fun y=>y == m.name)
def mayB (Rs:List Mod) (met:List ByteArray) (m:Mod):Bool:=waitsB met m && !(Rs.any fun o=>waitsB met o && Zcw m o.name)
def ZaV (Rs:List Mod):Nat→List ByteArray→Option (List ByteArray)
 | 0,met=>some met
 | n+1,met=>match Rs.find? (mayB Rs met) with | none=>none | some m=>ZaV Rs n (met++[m.name])
theorem waits_iff {met:List ByteArray} {m:Mod}:waitsB met m=true↔m.name ∉ met:=by
 unfold waitsB;rw [Bool.not_eq_true',← Bool.not_eq_true,List.any_eq_true]
 constructor
 ·exact fun h hm=>h ⟨_,hm,(Go.MapKept.bytes_beq _ _).2 rfl⟩
 ·rintro h ⟨x,hx,he⟩
  rw [(Go.MapKept.bytes_beq _ _).1 he] at hx;exact h hx
theorem may_iff {Rs:List Mod} {met:List ByteArray} {m:Mod}:mayB Rs met m=true↔m.name ∉ met∧∀ o∈Rs,Zcw m o.name=true→o.name∈met:=by
 unfold mayB;rw [Bool.and_eq_true,waits_iff,Bool.not_eq_true',← Bool.not_eq_true,List.any_eq_true]
 constructor
 ·rintro ⟨h1,h2⟩
  refine ⟨h1,fun o ho ha=>Classical.byContradiction fun hn=>h2 ⟨o,ho,?_⟩⟩;rw [Bool.and_eq_true,waits_iff];exact ⟨hn,ha⟩
 ·rintro ⟨h1,h2⟩
  refine ⟨h1,?_⟩;rintro ⟨o,ho,hb⟩;rw [Bool.and_eq_true,waits_iff] at hb;exact hb.1 (h2 o ho hb.2)
def Zcx (Rs:List Mod) (c:List ByteArray):Prop:=∀ (i:Nat) (x:ByteArray),c[i]?=some x→∃ m∈Rs,m.name=x∧x ∉ c.take i∧∀ o∈Rs,Zcw m o.name=true→o.name∈c.take i
theorem Zcx.nil {Rs:List Mod}:Zcx Rs []:=fun i x hx=>by simp at hx
theorem Zcx.at {Rs:List Mod} {c:List ByteArray} (h:Zcx Rs c):∀ (i:Nat) (x:ByteArray),c[i]?=some x→∃ m∈Rs,m.name=x∧x ∉ c.take i∧∀ o∈Rs,Zcw m o.name=true→o.name∈c.take i:=h
theorem Zcx.snoc {Rs:List Mod} {met:List ByteArray} {m:Mod} (h:Zcx Rs met) (hm:m∈Rs) (hn:m.name ∉ met) (ha:∀ o∈Rs,Zcw m o.name=true→o.name∈met):Zcx Rs (met++[m.name]):=by
 intro i x hx
 by_cases hi:i<met.length
 ·rw [List.getElem?_append_left hi] at hx
  rw [List.take_append_of_le_length (by omega)];exact h i x hx
 ·have hi2:i=met.length:=by
   have:=(List.getElem?_eq_some_iff.1 hx).1
   simp at this
   omega
  subst hi2;have hx2:m.name=x:=by simpa using hx
  subst hx2;rw [List.take_left' rfl];exact ⟨m,hm,rfl,hn,ha⟩
theorem Zcx.nodup {Rs:List Mod} {c:List ByteArray} (h:Zcx Rs c):c.Nodup:=by
 refine List.pairwise_iff_getElem.2 fun i j hi hj hij e=>?_;obtain ⟨_,_,_,hn,_⟩:=h j c[j] (List.getElem?_eq_getElem hj);refine hn ?_;rw [← e];exact List.mem_take_iff_getElem.2 ⟨i,by omega,rfl⟩
theorem Zcx.names {Rs:List Mod} {c:List ByteArray} (h:Zcx Rs c):∀ x∈c,∃ m∈Rs,m.name=x:=by
 intro x hx;obtain ⟨i,hi⟩:=List.getElem?_of_mem hx;obtain ⟨m,hm,hmx,_⟩:=h i x hi;exact ⟨m,hm,hmx⟩
theorem order_stands {Rs:List Mod}:∀ {n:Nat} {met c:List ByteArray},Zcx Rs met→ZaV Rs n met=some c→Zcx Rs c∧c.length=met.length+n∧c.take met.length=met
 | 0,met,c,h,he=>by
  have:met=c:=by simpa [ZaV] using he
  subst this;exact ⟨h,rfl,by simp⟩
 | n+1,met,c,h,he=>by
  unfold ZaV at he
  split at he
  ·cases he
  rename_i m hf
  have hm:=List.mem_of_find?_eq_some hf;have hp:=may_iff.1 (List.find?_some hf);obtain ⟨h1,h2,h3⟩:=order_stands (.snoc h hm hp.1 hp.2) he;refine ⟨h1,by simp at h2;omega,?_⟩;have h4:=congrArg (List.take met.length) h3;rw [List.take_take,List.take_left' rfl] at h4;rw [show min met.length (met++[m.name]).length=met.length by simp] at h4;exact h4
theorem order_none {Rs:List Mod}:∀ {n:Nat} {met:List ByteArray},Zcx Rs met→ZaV Rs n met=none→∃ met',Zcx Rs met'∧met'.length<met.length+n∧∀ m∈Rs,mayB Rs met' m=false
 | 0,met,h,he=>by simp [ZaV] at he
 | n+1,met,h,he=>by
  unfold ZaV at he
  split at he
  ·rename_i hf
   exact ⟨met,h,by omega,fun m hm=>by simpa using List.find?_eq_none.1 hf m hm⟩
  ·rename_i m hf
   have hm:=List.mem_of_find?_eq_some hf;have hp:=may_iff.1 (List.find?_some hf);obtain ⟨m',h1,h2,h3⟩:=order_none (.snoc h hm hp.1 hp.2) he;exact ⟨m',h1,by simp at h2;omega,h3⟩
theorem nodup_names {Rs:List Mod} (hd:(Rs.map (·.name)).Nodup) {a b:Mod} (ha:a∈Rs) (hb:b∈Rs) (h:a.name=b.name):a=b:=by
 obtain ⟨i,hi⟩:=List.getElem?_of_mem ha;obtain ⟨k,hk⟩:=List.getElem?_of_mem hb;have h1:(Rs.map (·.name))[i]?=some a.name:=by rw [List.getElem?_map,hi];rfl
 have h2:(Rs.map (·.name))[k]?=some a.name:=by rw [List.getElem?_map,hk,h];rfl
 have hil:i<(Rs.map (·.name)).length:=(List.getElem?_eq_some_iff.1 h1).1;have e:=(List.getElem?_inj hil hd).1 (h1.trans h2.symm);subst e;rw [hi] at hk;exact Option.some.inj hk
theorem comes_back {E:Nat→Nat→Prop}:∀ (n:Nat) (W:List Nat),W.length≤n→W≠[]→(∀ i∈W,∃ k∈W,E i k)→∃ i∈W,Via E i i
 | 0,W,h1,h2,_=>absurd (List.length_eq_zero_iff.1 (by omega)) h2
 | n+1,[],_,h2,_=>absurd rfl h2
 | n+1,i::W,h1,_,h3=>by
  by_cases hv:Via E i i
  ·exact ⟨i,by simp,hv⟩
  ·have hm:∀ k,k∈W.filter (fun k=>@decide (Via E i k) (Classical.propDecidable _))↔k∈W∧Via E i k:=fun k=>by
    rw [List.mem_filter,@decide_eq_true_iff _ (Classical.propDecidable _)]
   obtain ⟨k,hk,he⟩:=h3 i (by simp);have hkW:k∈W:=by
    rcases List.mem_cons.1 hk with rfl | hk
    ·exact absurd (.one he) hv
    ·exact hk
   obtain ⟨j,hj,hjv⟩:=comes_back n (W.filter (fun k=>@decide (Via E i k) (Classical.propDecidable _))) (by
    have:=List.length_filter_le (fun k=>@decide (Via E i k) (Classical.propDecidable _)) W
    simp at h1
    omega) (List.ne_nil_of_mem ((hm k).2 ⟨hkW,.one he⟩)) (fun a ha=>by
    obtain ⟨haW,hav⟩:=(hm a).1 ha;obtain ⟨b,hb,hab⟩:=h3 a (by simp [haW]);have hib:=hav.more hab
    rcases List.mem_cons.1 hb with rfl | hb
    ·exact absurd hib hv
    ·exact ⟨b,(hm b).2 ⟨hb,hib⟩,hab⟩)
   exact ⟨j,by simp [((hm j).1 hj).1],hjv⟩
def twiceFrom:List ByteArray→List Plc→Bool
 | _,[]=>false
 | met,p::l=>(met.any fun y=>y == p.mod.name) || twiceFrom (met++[p.mod.name]) l
def ZbN (L:List Plc):Int:=if 8<L.length then 2 else ZaW (fun _=>0) L
def Zav (L:List Plc):Int:=if ZbN L≠0 then ZbN L else if twiceFrom [] L=true then 6 else 0
theorem twice_nodup:∀ (L:List Plc) (met:List ByteArray),met.Nodup→(twiceFrom met L=false↔(met++L.map (·.mod.name)).Nodup)
 | [],met,h=>by simp [twiceFrom,h]
 | p::l,met,h=>by
  have hs:twiceFrom met (p::l)=((met.any fun y=>y == p.mod.name) || twiceFrom (met++[p.mod.name]) l):=rfl;rw [hs]
  by_cases hm:p.mod.name∈met
  ·rw [any_mem.2 hm,Bool.true_or]
   constructor
   ·intro h;cases h
   ·intro hn
    rw [List.nodup_append] at hn;exact absurd rfl (hn.2.2 _ hm _ (by simp))
  ·have h0:(met.any fun y=>y == p.mod.name)=false:=by
    cases he:met.any fun y=>y == p.mod.name
    ·rfl
    ·exact absurd (any_mem.1 he) hm
   rw [h0,Bool.false_or,twice_nodup l (met++[p.mod.name]) (by
    rw [List.nodup_append];exact ⟨h,by simp,fun a ha b hb=>by rw [List.mem_singleton.1 hb];exact fun e=>hm (e ▸ ha)⟩)]
   simp
theorem Zcc {L:List Plc}:Zav L=0↔L.length≤8∧(∀ p∈L,Zac p.mod=0)∧(L.map (·.mod.name)).Nodup:=by
 have ht:=twice_nodup L [] (by simp);rw [List.nil_append] at ht;unfold Zav
 constructor
 ·intro h
  split at h
  ·exact absurd h ‹_›
  rename_i h1
  have h1:ZbN L=0:=by omega
  unfold ZbN at h1
  split at h1
  ·omega
  rename_i h8
  split at h
  ·omega
  rename_i h2
  exact ⟨by omega,fun p hp=>(Zcm.1 h1 p hp).1,ht.1 (by simpa using h2)⟩
 ·rintro ⟨h1,h2,h3⟩
  have h4:ZbN L=0:=by
   unfold ZbN;rw [if_neg (by omega)];exact Zcm.2 fun p hp=>⟨h2 p hp,rfl⟩
  rw [h4,ht.2 h3]
  simp
end Go.Proofs.YtlpnfbpgnfappaaGreat
namespace Go.Proofs.YtlpnfbpgnfappaaGreat
open Go.RowKit Go.PlainAid Go.Maps Go.WideMaps
theorem chkGraph_cases (L:List Plc):(ZbN L≠0∧Zav L=ZbN L)∨(ZbN L=0∧L.length≤8∧Zav L=if twiceFrom [] L=true then 6 else 0):=by
 unfold Zav
 by_cases h:ZbN L=0
 ·refine .inr ⟨h,?_,by rw [if_neg (by omega)]⟩
  unfold ZbN at h
  split at h
  ·omega
  ·omega
 ·exact .inl ⟨h,by rw [if_pos h]⟩
theorem graphWrong_any (l:List PV) (v:Value) (w:World) (hrow:Zax w.heap.size w v l) (hfit:∀ x∈l,x.mod.fits) :
  Calls Tryz.prog 88 #[v] w fun e w'=>e=.returned (.int .i64 (Zav (l.map PV.plc)))∧Below w.heap.size w w':=by
 have HP:Hid (∀ W,Below w.heap.size w W→Calls Tryz.prog 121 #[v,.slice none 0 0] W fun e w'=>e=.returned (.int .i64 (ZbN (l.map PV.plc)))∧Below W.heap.size W w'):=by
  intro W hb
  have:=placedWrong_nil l v W ((hrow.below hb).more hb.size) hfit
  unfold ZbN;rw [List.length_map];exact this
 have hat:=hrow.2;obtain ⟨⟨a,cap,rfl,hmax,hrow⟩,_⟩:=hrow;have key:=chkGraph_cases (l.map PV.plc);rw [List.length_map] at key;generalize Zav (l.map PV.plc)=R at *;generalize ZbN (l.map PV.plc)=cp at *;have hmm:=@run_makeMap Tryz.prog
 go_enter Tryz.func88,Tryz.ntmps88
 go_wp2_with fail;refine (HP.out w (Below.refl _ _)).mono ?_;rintro e w2 ⟨rfl,B2⟩;clear HP
 rcases key with ⟨h0,rfl⟩ | ⟨rfl,h8,hR⟩
 ·have h0':(R != 0)=true:=by simpa using h0
  clear hrow hat h0;go_wp2;go_ret;exact ⟨rfl,B2⟩
 ·have HRR:Hid (R=if twiceFrom [] (l.map PV.plc)=true then 6 else 0):=hR
  clear hR;go_wp2
  go_loopw [17] (fun i wr=>∃ (k:Nat) (D:DataW Unit),k≤l.length∧i=.int .i64 k∧wr.ownsMap Tryz.prog 9 (plainElem Tryz.prog 3) w2.heap.size k D∧Zbt D ((l.take k).map (·.mod.name))∧Hid (twiceFrom [] (l.map PV.plc)=twiceFrom ((l.take k).map (·.mod.name)) ((l.drop k).map PV.plc))∧Below w2.heap.size w2 wr) (fun i _=>l.length-(intOf i).toNat)
  case atStart=>exact ⟨0,.map [],Nat.zero_le _,rfl,World.ownsMap_made _ _ _ _,Zbt.none,by show twiceFrom [] (l.map PV.plc)=twiceFrom [] ((l.drop 0).map PV.plc);rfl,(Below.refl _ _).alloc (Nat.le_refl _) _⟩
  case round=>
   obtain ⟨k,D,hk,rfl,hown,hD,HC,B⟩:=hrel;have B':Below w.heap.size w wr:=B2.trans (B.mono B2.size)
   by_cases hlt:k<l.length
   ·obtain ⟨x,hx⟩:∃ x,l[k]?=some x:=⟨_,List.getElem?_eq_getElem hlt⟩
    rcases hrow with h | ⟨b,off,rfl,hbn,hcells⟩
    ·subst h;simp at hlt
    have hn:x.mod.name.size≤9223372036854775807:=(hfit x (List.mem_of_getElem? hx)).1;have htk:(l.take (k+1)).map (·.mod.name)=(l.take k).map (·.mod.name)++[x.mod.name]:=by rw [List.take_add_one,hx];simp
    have HR:Hid (twiceFrom [] (l.map PV.plc)=((((l.take k).map (·.mod.name)).any fun y=>y == x.mod.name) || twiceFrom ((l.take (k+1)).map (·.mod.name)) ((l.drop (k+1)).map PV.plc))):=by
     show twiceFrom [] (l.map PV.plc)=_
     rw [HC.out,drop_at hx,htk];rfl
    have hhas:=hD x.mod.name;have HPUT:Hid (∀ d,Zbt (D.put (.string x.mod.name.data.toList) d) ((l.take (k+1)).map (·.mod.name))):=fun d=>by rw [htk];exact hD.put hown.isMap x.mod.name d
    have hkey:keyOf Tryz.prog 9 (.string x.mod.name)=some (.string x.mod.name.data.toList):=keyOf_string_mk Tryz.underlying9 hn;obtain ⟨⟨pe,ke,e4,_⟩,⟨pi,ki,e5,_⟩,⟨pp,kp,e6,_⟩⟩:=hat x (List.mem_of_getElem? hx);obtain ⟨⟨N,ma,mi,T,es,is,ps⟩,ve,vi,vp,fi⟩:=x;dsimp only at e4 e5 e6 hn HR hhas HPUT hkey;subst e4 e5 e6;have c0:=(B'.cell (p:=⟨b,off+k*8+0,none⟩) hbn).trans (hcells k _ hx 0 (by omega));have c1:=(B'.cell (p:=⟨b,off+k*8+1,none⟩) hbn).trans (hcells k _ hx 1 (by omega));have c2:=(B'.cell (p:=⟨b,off+k*8+2,none⟩) hbn).trans (hcells k _ hx 2 (by omega));have c3:=(B'.cell (p:=⟨b,off+k*8+3,none⟩) hbn).trans (hcells k _ hx 3 (by omega));have c4:=(B'.cell (p:=⟨b,off+k*8+4,none⟩) hbn).trans (hcells k _ hx 4 (by omega));have c5:=(B'.cell (p:=⟨b,off+k*8+5,none⟩) hbn).trans (hcells k _ hx 5 (by omega));have c6:=(B'.cell (p:=⟨b,off+k*8+6,none⟩) hbn).trans (hcells k _ hx 6 (by omega));have c7:=(B'.cell (p:=⟨b,off+k*8+7,none⟩) hbn).trans (hcells k _ hx 7 (by omega));dsimp only [PV.cell] at c0 c1 c2 c3 c4 c5 c6 c7;rw [Nat.add_zero] at c0;clear HC hcells hx hat htk hD;generalize es.length=le at *;generalize is.length=li at *;generalize ps.length=lp at *;generalize ((l.take k).map (·.mod.name)).any (fun y=>y == N)=T' at HR hhas
    cases T'
    all_goals
     go_wp2_with (first
      | (at_lookup;refine wpList_lookup_own_ok_int _ rfl _ _ 171 rfl 9 3 .i64 lawS Tryz.underlying171 Tryz.underlying3 (zeroI _) w2.heap.size k D rfl (hown.kept (World.grownBy_alloc _ _ none) (by simp)) _ _ rfl hkey ?_;intro c hat hwc;clear hat hwc)
      | (at_mapUpdate;refine wpList_mapUpdate_own _ rfl _ _ _ 171 rfl 9 3 lawS Tryz.underlying171 _ w2.heap.size k _ rfl (hown.kept (World.grownBy_alloc _ _ none) (by simp)) (by unfold maxLen;omega) _ _ _ rfl rfl hkey _ [] (plainElem_int Tryz.underlying3 (WalkArith.wf_i64 (by omega))) ?_;intro w1 hown1 hgrow1))
    case roundEnd=>
     exact ⟨⟨k+1,_,by omega,by go_num,hown1,HPUT.out _,HR.out,(B.alloc B.size _).grown hgrow1 (by simp;have:=B.size;omega) (fun j hj=>by cases hj;exact Nat.le_refl _)⟩,by simp [intOf];omega⟩
    all_goals
     go_ret;exact ⟨by rw [HRR.out,HR.out];rfl,B'.alloc B'.size _⟩
   ·obtain rfl:k=l.length:=by omega
    have HZ:Hid (R=0):=by
     show R=0
     rw [HRR.out,HC.out,List.drop_length];rfl
    go_wp2;go_ret;exact ⟨by rw [HZ.out];rfl,B'⟩
end Go.Proofs.YtlpnfbpgnfappaaGreat
namespace Go.Proofs.YtlpnfbpgnfappaaGreat
open Go.RowKit Go.PlainAid
theorem ix_any {α:Type} (p:α→Bool):∀ (l:List α) (k:Nat),(l.any p=true∧0≤Zag p k l)∨(l.any p=false∧Zag p k l = -1)
 | [],_=>.inr ⟨rfl,rfl⟩
 | x::l,k=>by
  have hs:Zag p k (x::l)=if p x then (k:Int) else Zag p (k+1) l:=rfl;rw [hs,List.any_cons]
  cases hx:p x
  ·rw [Bool.false_or]
   exact ix_any p l (k+1)
  ·exact .inl ⟨rfl,by rw [if_pos rfl];omega⟩
theorem ixPlc_any (l:List PV) (v:Value) (K:FuncId) (c:Value) (hK:∀ w x,Sem.run Tryz.prog (callFunc K #[x,c]) w=.ok (.enter K #[x,c]) w) (p:PV→Bool) (w:World) (hrow:Zal 8 PV.cell w.heap.size w v l)
  (hp:∀ x∈l,∀ W,Below w.heap.size w W→Calls Tryz.prog K #[x.val,c] W fun e W'=>e=.returned (.bool (p x))∧Below W.heap.size W W') :
  Calls Tryz.prog 79 #[v,.func (.func K) #[] #[c]] w fun e w'=>e=.returned (.int .i64 (Zag p 0 l))∧Below w.heap.size w w':=by
 obtain ⟨a,cap,rfl,_,hrow⟩:=hrow
 go_enter Tryz.func79,Tryz.ntmps79
 go_wp2
 go_loopw [8] (fun i wr=>∃ (k:Nat),k≤l.length∧i=.int .i64 k∧Hid (Zag p 0 l=Zag p k (l.drop k))∧Below w.heap.size w wr) (fun i _=>l.length-(intOf i).toNat)
 case atStart=>exact ⟨0,Nat.zero_le _,rfl,by show Zag p 0 l=Zag p 0 (l.drop 0);rfl,Below.refl _ _⟩
 case round=>
  obtain ⟨k,hk,rfl,HC,B⟩:=hrel
  by_cases hlt:k<l.length
  ·obtain ⟨x,hx⟩:∃ x,l[k]?=some x:=⟨_,List.getElem?_eq_getElem hlt⟩
   rcases hrow with h | ⟨b,off,rfl,hbn,hcells⟩
   ·subst h;simp at hlt
   have c0:=(B.cell (p:=⟨b,off+k*8+0,none⟩) hbn).trans (hcells k _ hx 0 (by omega));have c1:=(B.cell (p:=⟨b,off+k*8+1,none⟩) hbn).trans (hcells k _ hx 1 (by omega));have c2:=(B.cell (p:=⟨b,off+k*8+2,none⟩) hbn).trans (hcells k _ hx 2 (by omega));have c3:=(B.cell (p:=⟨b,off+k*8+3,none⟩) hbn).trans (hcells k _ hx 3 (by omega));have c4:=(B.cell (p:=⟨b,off+k*8+4,none⟩) hbn).trans (hcells k _ hx 4 (by omega));have c5:=(B.cell (p:=⟨b,off+k*8+5,none⟩) hbn).trans (hcells k _ hx 5 (by omega));have c6:=(B.cell (p:=⟨b,off+k*8+6,none⟩) hbn).trans (hcells k _ hx 6 (by omega));have c7:=(B.cell (p:=⟨b,off+k*8+7,none⟩) hbn).trans (hcells k _ hx 7 (by omega));dsimp only [PV.cell] at c0 c1 c2 c3 c4 c5 c6 c7;rw [Nat.add_zero] at c0;have HR:Hid (Zag p 0 l=if p x then (k:Int) else Zag p (k+1) (l.drop (k+1))):=by
    show Zag p 0 l=_
    rw [HC.out,drop_at hx];rfl
   have HP':Hid (∀ W,Below w.heap.size w W→Calls Tryz.prog K #[.agg #[.string x.mod.name,.int .i64 x.mod.major,.int .i64 x.mod.minor,.string x.mod.text,x.ve,x.vi,x.vp,.int .i64 x.first],c] W fun e W'=>e=.returned (.bool (p x))∧Below W.heap.size W W'):=hp x (List.mem_of_getElem? hx);clear HC hcells hx;generalize p x=t at HR HP';go_wp2_with fail;refine Calls.mono (HP'.out _ B) ?_;rintro e w2 ⟨rfl,b2⟩;have B2:=B.trans (b2.mono B.size);clear b2 HP' c0 c1 c2 c3 c4 c5 c6 c7
   cases t
   ·go_wp2
    exact ⟨⟨k+1,by omega,by go_num,HR.out,B2⟩,by simp [intOf];omega⟩
   ·go_wp2
    go_ret;exact ⟨by rw [HR.out];rfl,B2⟩
  ·obtain rfl:k=l.length:=by omega
   have HZ:Hid (Zag p 0 l = -1):=by
    show Zag p 0 l = -1
    rw [HC.out,List.drop_length];rfl
   go_wp2;go_ret;exact ⟨by rw [HZ.out];rfl,B⟩
theorem ixImp_any (l:List Imp) (v:Value) (K:FuncId) (c:Value) (hK:∀ w x,Sem.run Tryz.prog (callFunc K #[x,c]) w=.ok (.enter K #[x,c]) w) (p:Imp→Bool) (w:World) (hrow:Zal 4 Imp.cell w.heap.size w v l)
  (hp:∀ x∈l,∀ W,Below w.heap.size w W→Calls Tryz.prog K #[.agg #[.string x.mod,.string x.name,.int .i64 x.major,.int .i64 x.minor],c] W fun e W'=>e=.returned (.bool (p x))∧Below W.heap.size W W') :
  Calls Tryz.prog 181 #[v,.func (.func K) #[] #[c]] w fun e w'=>e=.returned (.int .i64 (Zag p 0 l))∧Below w.heap.size w w':=by
 obtain ⟨a,cap,rfl,_,hrow⟩:=hrow
 go_enter Tryz.func181,Tryz.ntmps181
 go_wp2
 go_loopw [8] (fun i wr=>∃ (k:Nat),k≤l.length∧i=.int .i64 k∧Hid (Zag p 0 l=Zag p k (l.drop k))∧Below w.heap.size w wr) (fun i _=>l.length-(intOf i).toNat)
 case atStart=>exact ⟨0,Nat.zero_le _,rfl,by show Zag p 0 l=Zag p 0 (l.drop 0);rfl,Below.refl _ _⟩
 case round=>
  obtain ⟨k,hk,rfl,HC,B⟩:=hrel
  by_cases hlt:k<l.length
  ·obtain ⟨x,hx⟩:∃ x,l[k]?=some x:=⟨_,List.getElem?_eq_getElem hlt⟩
   rcases hrow with h | ⟨b,off,rfl,hbn,hcells⟩
   ·subst h;simp at hlt
   have c0:=(B.cell (p:=⟨b,off+k*4+0,none⟩) hbn).trans (hcells k _ hx 0 (by omega));have c1:=(B.cell (p:=⟨b,off+k*4+1,none⟩) hbn).trans (hcells k _ hx 1 (by omega));have c2:=(B.cell (p:=⟨b,off+k*4+2,none⟩) hbn).trans (hcells k _ hx 2 (by omega));have c3:=(B.cell (p:=⟨b,off+k*4+3,none⟩) hbn).trans (hcells k _ hx 3 (by omega));dsimp only [Imp.cell] at c0 c1 c2 c3;rw [Nat.add_zero] at c0;have HR:Hid (Zag p 0 l=if p x then (k:Int) else Zag p (k+1) (l.drop (k+1))):=by
    show Zag p 0 l=_
    rw [HC.out,drop_at hx];rfl
   have HP':Hid (∀ W,Below w.heap.size w W→Calls Tryz.prog K #[.agg #[.string x.mod,.string x.name,.int .i64 x.major,.int .i64 x.minor],c] W fun e W'=>e=.returned (.bool (p x))∧Below W.heap.size W W'):=hp x (List.mem_of_getElem? hx);clear HC hcells hx;generalize p x=t at HR HP';go_wp2_with fail;refine Calls.mono (HP'.out _ B) ?_;rintro e w2 ⟨rfl,b2⟩;have B2:=B.trans (b2.mono B.size);clear b2 HP' c0 c1 c2 c3
   cases t
   ·go_wp2
    exact ⟨⟨k+1,by omega,by go_num,HR.out,B2⟩,by simp [intOf];omega⟩
   ·go_wp2
    go_ret;exact ⟨by rw [HR.out];rfl,B2⟩
  ·obtain rfl:k=l.length:=by omega
   have HZ:Hid (Zag p 0 l = -1):=by
    show Zag p 0 l = -1
    rw [HC.out,List.drop_length];rfl
   go_wp2;go_ret;exact ⟨by rw [HZ.out];rfl,B⟩
theorem ixMod_any (l:List PV) (v:Value) (K:FuncId) (c:Value) (d:Value) (hK:∀ w x,Sem.run Tryz.prog (callFunc K #[x,c,d]) w=.ok (.enter K #[x,c,d]) w) (p:PV→Bool) (w:World) (hrow:Zal 7 PV.cell w.heap.size w v l)
  (hp:∀ x∈l,∀ W,Below w.heap.size w W→Calls Tryz.prog K #[x.modV,c,d] W fun e W'=>e=.returned (.bool (p x))∧Below W.heap.size W W') :
  Calls Tryz.prog 146 #[v,.func (.func K) #[] #[c,d]] w fun e w'=>e=.returned (.int .i64 (Zag p 0 l))∧Below w.heap.size w w':=by
 obtain ⟨a,cap,rfl,_,hrow⟩:=hrow
 go_enter Tryz.func146,Tryz.ntmps146
 go_wp2
 go_loopw [8] (fun i wr=>∃ (k:Nat),k≤l.length∧i=.int .i64 k∧Hid (Zag p 0 l=Zag p k (l.drop k))∧Below w.heap.size w wr) (fun i _=>l.length-(intOf i).toNat)
 case atStart=>exact ⟨0,Nat.zero_le _,rfl,by show Zag p 0 l=Zag p 0 (l.drop 0);rfl,Below.refl _ _⟩
 case round=>
  obtain ⟨k,hk,rfl,HC,B⟩:=hrel
  by_cases hlt:k<l.length
  ·obtain ⟨x,hx⟩:∃ x,l[k]?=some x:=⟨_,List.getElem?_eq_getElem hlt⟩
   rcases hrow with h | ⟨b,off,rfl,hbn,hcells⟩
   ·subst h;simp at hlt
   have c0:=(B.cell (p:=⟨b,off+k*7+0,none⟩) hbn).trans (hcells k _ hx 0 (by omega));have c1:=(B.cell (p:=⟨b,off+k*7+1,none⟩) hbn).trans (hcells k _ hx 1 (by omega));have c2:=(B.cell (p:=⟨b,off+k*7+2,none⟩) hbn).trans (hcells k _ hx 2 (by omega));have c3:=(B.cell (p:=⟨b,off+k*7+3,none⟩) hbn).trans (hcells k _ hx 3 (by omega));have c4:=(B.cell (p:=⟨b,off+k*7+4,none⟩) hbn).trans (hcells k _ hx 4 (by omega));have c5:=(B.cell (p:=⟨b,off+k*7+5,none⟩) hbn).trans (hcells k _ hx 5 (by omega));have c6:=(B.cell (p:=⟨b,off+k*7+6,none⟩) hbn).trans (hcells k _ hx 6 (by omega));dsimp only [PV.cell] at c0 c1 c2 c3 c4 c5 c6;rw [Nat.add_zero] at c0;have HR:Hid (Zag p 0 l=if p x then (k:Int) else Zag p (k+1) (l.drop (k+1))):=by
    show Zag p 0 l=_
    rw [HC.out,drop_at hx];rfl
   have HP':Hid (∀ W,Below w.heap.size w W→Calls Tryz.prog K #[.agg #[.string x.mod.name,.int .i64 x.mod.major,.int .i64 x.mod.minor,.string x.mod.text,x.ve,x.vi,x.vp],c,d] W fun e W'=>e=.returned (.bool (p x))∧Below W.heap.size W W'):=hp x (List.mem_of_getElem? hx);clear HC hcells hx;generalize p x=t at HR HP';go_wp2_with fail;refine Calls.mono (HP'.out _ B) ?_;rintro e w2 ⟨rfl,b2⟩;have B2:=B.trans (b2.mono B.size);clear b2 HP' c0 c1 c2 c3 c4 c5 c6
   cases t
   ·go_wp2
    exact ⟨⟨k+1,by omega,by go_num,HR.out,B2⟩,by simp [intOf];omega⟩
   ·go_wp2
    go_ret;exact ⟨by rw [HR.out];rfl,B2⟩
  ·obtain rfl:k=l.length:=by omega
   have HZ:Hid (Zag p 0 l = -1):=by
    show Zag p 0 l = -1
    rw [HC.out,List.drop_length];rfl
   go_wp2;go_ret;exact ⟨by rw [HZ.out];rfl,B⟩
theorem anyImp_any (l:List Imp) (v:Value) (K:FuncId) (c:Value) (hK:∀ w x,Sem.run Tryz.prog (callFunc K #[x,c]) w=.ok (.enter K #[x,c]) w) (p:Imp→Bool) (w:World) (hrow:Zal 4 Imp.cell w.heap.size w v l)
  (hp:∀ x∈l,∀ W,Below w.heap.size w W→Calls Tryz.prog K #[.agg #[.string x.mod,.string x.name,.int .i64 x.major,.int .i64 x.minor],c] W fun e W'=>e=.returned (.bool (p x))∧Below W.heap.size W W') :
  Calls Tryz.prog 156 #[v,.func (.func K) #[] #[c]] w fun e w'=>e=.returned (.bool (l.any p))∧Below w.heap.size w w':=by
 have HI:Hid (Calls Tryz.prog 181 #[v,.func (.func K) #[] #[c]] w fun e w'=>e=.returned (.int .i64 (Zag p 0 l))∧Below w.heap.size w w'):=ixImp_any l v K c hK p w hrow hp;obtain ⟨a,cap,rfl,_,_⟩:=hrow;have key:=ix_any p l 0;generalize l.any p=r at *;generalize Zag p 0 l=ix at *;generalize l.length=ll at *;clear hK hp
 go_enter Tryz.func156,Tryz.ntmps156
 go_wp2_with fail;refine HI.out.mono ?_;rintro e w2 ⟨rfl,b2⟩;clear HI
 rcases key with ⟨rfl,h1⟩ | ⟨rfl,rfl⟩
 ·go_wp2
  go_ret;exact ⟨rfl,b2⟩
 ·go_wp2
  go_ret;exact ⟨rfl,b2⟩
theorem anyMod_any (l:List PV) (v:Value) (K:FuncId) (c:Value) (d:Value) (hK:∀ w x,Sem.run Tryz.prog (callFunc K #[x,c,d]) w=.ok (.enter K #[x,c,d]) w) (p:PV→Bool) (w:World) (hrow:Zal 7 PV.cell w.heap.size w v l)
  (hp:∀ x∈l,∀ W,Below w.heap.size w W→Calls Tryz.prog K #[x.modV,c,d] W fun e W'=>e=.returned (.bool (p x))∧Below W.heap.size W W') :
  Calls Tryz.prog 144 #[v,.func (.func K) #[] #[c,d]] w fun e w'=>e=.returned (.bool (l.any p))∧Below w.heap.size w w':=by
 have HI:Hid (Calls Tryz.prog 146 #[v,.func (.func K) #[] #[c,d]] w fun e w'=>e=.returned (.int .i64 (Zag p 0 l))∧Below w.heap.size w w'):=ixMod_any l v K c d hK p w hrow hp;obtain ⟨a,cap,rfl,_,_⟩:=hrow;have key:=ix_any p l 0;generalize l.any p=r at *;generalize Zag p 0 l=ix at *;generalize l.length=ll at *;clear hK hp
 go_enter Tryz.func144,Tryz.ntmps144
 go_wp2_with fail;refine HI.out.mono ?_;rintro e w2 ⟨rfl,b2⟩;clear HI
 rcases key with ⟨rfl,h1⟩ | ⟨rfl,rfl⟩
 ·go_wp2
  go_ret;exact ⟨rfl,b2⟩
 ·go_wp2
  go_ret;exact ⟨rfl,b2⟩
theorem asks1_any (B:Nat) (name:ByteArray) (x:Imp) (w:World) (hlt:B<w.heap.size) (hB:w.cell? ⟨B,0,none⟩=some (.string name)) :
  Calls Tryz.prog 157 #[.agg #[.string x.mod,.string x.name,.int .i64 x.major,.int .i64 x.minor],.pointer (some ⟨B,0,none⟩)] w fun e w'=>e=.returned (.bool (x.mod == name))∧Below w.heap.size w w':=by
 rw [← Zbg];obtain ⟨M,N,a,b⟩:=x;dsimp only
 go_enter Tryz.func157,Tryz.ntmps157
 go_wp2;go_ret;exact ⟨rfl,(Below.refl _ _).alloc (Nat.le_refl _) _⟩
theorem asks_any (M:Mod) (v:Value) (name:ByteArray) (w:World) (hM:Zbf w.heap.size w v M) :
  Calls Tryz.prog 99 #[v,.string name] w fun e w'=>e=.returned (.bool (Zcw M name))∧Below w.heap.size w w':=by
 obtain ⟨ve,vi,vp,rfl,hE,hI,hP⟩:=hM;have HA:Hid (∀ W B,Below w.heap.size w W→B<W.heap.size→W.cell? ⟨B,0,none⟩=some (.string name)→Calls Tryz.prog 156 #[vi,.func (.func 157) #[] #[.pointer (some ⟨B,0,none⟩)]] W fun e w'=>e=.returned (.bool (Zcw M name))∧Below W.heap.size W w'):=by
  intro W B hb hlt hB;exact anyImp_any M.imps vi 157 (.pointer (some ⟨B,0,none⟩)) (fun w x=>enters_of Tryz.func157 (by kernel_rfl) rfl _ w) _ W ((hI.below hb).more hb.size) (fun x _ W' hb'=>asks1_any B name x W' (Nat.lt_of_lt_of_le hlt hb'.size) ((hb'.cell (p:=⟨B,0,none⟩) hlt).trans hB))
 obtain ⟨pe,ke,rfl,_,_⟩:=hE;obtain ⟨pi,ki,rfl,_,_⟩:=hI;obtain ⟨pp,kp,rfl,_,_⟩:=hP;generalize Zcw M name=r at *;obtain ⟨N,ma,mi,T,es,is,ps⟩:=M;dsimp only at *;generalize es.length=le at *;generalize is.length=li at *;generalize ps.length=lp at *;have HB:Hid (Below w.heap.size w ((w.alloc (.cells #[.string N,.int .i64 ma,.int .i64 mi,.string T,.slice pe le ke,.slice pi li ki,.slice pp lp kp] 31)).alloc (.cells #[.string name] 9))):=((Below.refl _ _).alloc (Nat.le_refl _) _).alloc (by simp) _;have HC:Hid (((w.alloc (.cells #[.string N,.int .i64 ma,.int .i64 mi,.string T,.slice pe le ke,.slice pi li ki,.slice pp lp kp] 31)).alloc (.cells #[.string name] 9)).cell? ⟨w.heap.size+1,0,none⟩=some (.string name)):=by
  have:=(Za.new (w.alloc (.cells #[.string N,.int .i64 ma,.int .i64 mi,.string T,.slice pe le ke,.slice pi li ki,.slice pp lp kp] 31)) 9 #[.string name]).cell 0
  rw [World.size_alloc] at this;exact this
 go_enter Tryz.func99,Tryz.ntmps99
 go_wp2_with fail;refine (HA.out _ (w.heap.size+1) HB.out (by simp) HC.out).mono ?_;rintro e w2 ⟨rfl,b2⟩;have B2:=HB.out.trans (b2.mono HB.out.size);clear HA HB HC b2;go_wp2;go_ret;exact ⟨rfl,B2⟩
end Go.Proofs.YtlpnfbpgnfappaaGreat
