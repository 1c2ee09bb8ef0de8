/- Texts that are laid together. -/
import Derived.Test.YtlpnfbpgnfappaaGreatMrgC
import Derived.Test.YtlpnfbpgnfappaaGreatMrgD
import Derived.Laws.EntriesVeiled
import Derived.Test.YtlpnfbpgnfappaaGreatProg
import Derived.Deep.RegionHeld3
import Derived.Deep.AppendLies
set_option maxHeartbeats 256000000
set_option maxRecDepth 100000

namespace Go.Proofs.YtlpnfbpgnfappaaGreat
open Go.RowKit Go.PlainAid
def ZaW (q:Plc→Int):List Plc→Int
 | []=>0
 | p::l=>if Zac p.mod≠0 then Zac p.mod else if q p≠0 then q p else ZaW q l
theorem chkBy_step (q:Plc→Int) (p:Plc) (l:List Plc):(Zac p.mod≠0∧ZaW q (p::l)=Zac p.mod)∨(Zac p.mod=0∧q p≠0∧ZaW q (p::l)=q p)∨(Zac p.mod=0∧q p=0∧ZaW q (p::l)=ZaW q l):=by
 have hs:ZaW q (p::l)=if Zac p.mod≠0 then Zac p.mod else if q p≠0 then q p else ZaW q l:=rfl;rw [hs]
 by_cases h:Zac p.mod=0
 ·by_cases h2:q p=0
  ·exact .inr (.inr ⟨h,h2,by rw [if_neg (by simpa using h),if_neg (by simpa using h2)]⟩)
  ·exact .inr (.inl ⟨h,h2,by rw [if_neg (by simpa using h),if_pos h2]⟩)
 ·exact .inl ⟨h,by rw [if_pos h]⟩
theorem Zcm {q:Plc→Int}:∀ {l:List Plc},ZaW q l=0↔∀ p∈l,Zac p.mod=0∧q p=0
 | []=>by simp [ZaW]
 | p::l=>by
  rcases chkBy_step q p l with ⟨h,e⟩ | ⟨h,h2,e⟩ | ⟨h,h2,e⟩
  ·rw [e]
   exact ⟨fun h'=>absurd h' h,fun h'=>(h' p (by simp)).1⟩
  ·rw [e]
   exact ⟨fun h'=>absurd h' h2,fun h'=>(h' p (by simp)).2⟩
  ·rw [e,Zcm]
   constructor
   ·intro h' x hx
    rcases List.mem_cons.1 hx with rfl | hx
    ·exact ⟨h,h2⟩
    ·exact h' x hx
   ·exact fun h' x hx=>h' x (List.mem_cons_of_mem _ hx)
def farErr (p:Plc):Int:=if betw p.first 0 15=false then 3 else 0
theorem chkPls_by:∀ l:List Plc,chkPls l=ZaW farErr l
 | []=>rfl
 | p::l=>by
  have h1:chkPls (p::l)=if Zac p.mod≠0 then Zac p.mod else if betw p.first 0 15=false then 3 else chkPls l:=rfl
  have h2:ZaW farErr (p::l)=if Zac p.mod≠0 then Zac p.mod else if (if betw p.first 0 15=false then (3:Int) else 0)≠0 then (if betw p.first 0 15=false then (3:Int) else 0) else ZaW farErr l:=rfl;rw [h1,h2,chkPls_by l];generalize ZaW farErr l=x
  cases betw p.first 0 15
  ·simp
  ·simp
def szM (m:Mod):Nat:=(m.text.size+63) / 64
theorem Zco {m:Mod} (h:Zac m=0):1≤szM m∧szM m≤4∧m.text.size≤256∧1≤m.text.size:=by
 have h1:=(Zbl h).2.1;have h2:m.text.size≠0:=by
  intro h0;unfold Zac at h
  split at h
  ·omega
  split at h
  ·omega
  split at h
  ·omega
  split at h
  ·omega
  ·rename_i _ _ _ h4
   exact h4 (.inl h0)
 unfold szM
 omega
def Zbi (p:Plc):Int:=if p.first<0∨16-(szM p.mod:Int)<p.first then 3 else 0
def behind:Int→List Plc→Bool
 | _,[]=>true
 | e,p::l=>!decide (p.first<e) && behind (p.first+szM p.mod) l
def Zas (l:List Plc):Int:=if 8<l.length then 2 else if ZaW Zbi l≠0 then ZaW Zbi l else if behind 0 l=false then 4 else 0
def okPl:Int→List Plc→Prop
 | e,[]=>e≤16
 | e,p::l=>e≤p.first∧1≤szM p.mod∧p.first+szM p.mod≤16∧okPl (p.first+szM p.mod) l
theorem behind_ok:∀ {l:List Plc} {e:Int},e≤16→(∀ p∈l,1≤szM p.mod∧p.first+szM p.mod≤16)→behind e l=true→okPl e l
 | [],_,he,_,_=>he
 | p::l,e,he,h,hb=>by
  unfold behind at hb;simp at hb;obtain ⟨h1,h2⟩:=h p (by simp);exact ⟨hb.1,h1,h2,behind_ok h2 (fun x hx=>h x (List.mem_cons_of_mem _ hx)) hb.2⟩
theorem ok_behind:∀ {l:List Plc} {e:Int},okPl e l→behind e l=true
 | [],_,_=>rfl
 | p::l,e,h=>by
  obtain ⟨h1,_,_,h4⟩:=h;unfold behind;simp [ok_behind h4]
  omega
theorem okPl_first:∀ {l:List Plc} {e:Int},okPl e l→∀ p∈l,e≤p.first∧1≤szM p.mod∧p.first+szM p.mod≤16
 | [],_,_,p,hp=>by simp at hp
 | x::l,e,h,p,hp=>by
  obtain ⟨h1,h2,h3,h4⟩:=h
  rcases List.mem_cons.1 hp with rfl | hp
  ·exact ⟨h1,h2,h3⟩
  ·have:=okPl_first h4 p hp
   omega
theorem okPl_end:∀ {l:List Plc} {e:Int},okPl e l→e≤16
 | [],_,h=>h
 | p::l,e,h=>by
  have:=okPl_end h.2.2.2
  have h1:=h.1
  omega
theorem ZaO {l:List Plc}:Zas l=0↔l.length≤8∧(∀ p∈l,Zac p.mod=0)∧okPl 0 l:=by
 unfold Zas
 constructor
 ·intro h
  split at h
  ·omega
  rename_i h8
  split at h
  ·omega
  rename_i hb
  have hb:ZaW Zbi l=0:=by omega
  have hz:=Zcm.1 hb
  split at h
  ·omega
  rename_i hh
  have hh:behind 0 l=true:=by simpa using hh
  refine ⟨by omega,fun p hp=>(hz p hp).1,behind_ok (by decide) ?_ hh⟩;intro p hp;obtain ⟨h1,h2⟩:=hz p hp
  have:=Zco h1
  unfold Zbi at h2
  split at h2
  ·omega
  ·omega
 ·rintro ⟨h1,h2,h3⟩
  have hb:ZaW Zbi l=0:=Zcm.2 fun p hp=>⟨h2 p hp,by
   have:=okPl_first h3 p hp
   unfold Zbi;rw [if_neg (by omega)]⟩
  rw [if_neg (by omega),hb,if_neg (by simp),ok_behind h3]
  simp
def Zce (a b:Int):List (Int × Int):=if a=b then [] else [(a,b-a)]
def runsFrom:Int→List Plc→List (Int × Int)
 | e,[]=>Zce e 16
 | e,p::l=>Zce e p.first++runsFrom (p.first+szM p.mod) l
def rises:Int→List (Int × Int)→Prop
 | _,[]=>True
 | e,r::l=>e≤r.1∧1≤r.2∧r.1+r.2≤16∧rises (r.1+r.2+1) l
theorem rises_le:∀ {l:List (Int × Int)} {e e':Int},e'≤e→rises e l→rises e' l
 | [],_,_,_,_=>trivial
 | r::l,e,e',h,hr=>⟨by have:=hr.1;omega,hr.2.1,hr.2.2.1,hr.2.2.2⟩
theorem runs_rise:∀ {l:List Plc} {e:Int},okPl e l→rises e (runsFrom e l)
 | [],e,h=>by
  unfold runsFrom Zce;have h:e≤16:=h
  split
  ·trivial
  ·exact ⟨by simp,by simp;omega,by simp;omega,trivial⟩
 | p::l,e,h=>by
  obtain ⟨h1,h2,h3,h4⟩:=h
  have:=runs_rise h4
  unfold runsFrom Zce
  split
  ·exact rises_le (by omega) this
  ·refine ⟨by simp,by simp;omega,by simp;omega,rises_le ?_ this⟩
   simp
   omega
def Zch (many:Int) (l:List (Int × Int)):Option (Int × Int):=l.find? fun r=>decide (many≤r.2)
theorem ok_less:∀ {l:List Plc} {e:Int} (i:Nat),okPl e l→okPl e (l.eraseIdx i)
 | [],_,i,h=>by simpa using h
 | p::l,e,0,h=>by
  obtain ⟨h1,h2,h3,h4⟩:=h;rw [List.eraseIdx_cons_zero]
  cases l with
  | nil=>exact (show e≤16 by omega)
  | cons q l=>
   obtain ⟨g1,g2,g3,g4⟩:=h4;exact ⟨by omega,g2,g3,g4⟩
 | p::l,e,i+1,h=>by
  obtain ⟨h1,h2,h3,h4⟩:=h;rw [List.eraseIdx_cons_succ];exact ⟨h1,h2,h3,ok_less i h4⟩
theorem chkReg_less {l:List Plc} (i:Nat) (h:Zas l=0):Zas (l.eraseIdx i)=0:=by
 obtain ⟨h1,h2,h3⟩:=ZaO.1 h;refine ZaO.2 ⟨Nat.le_trans (List.length_eraseIdx_le _ _) h1,fun p hp=>h2 p (List.mem_of_mem_eraseIdx hp),ok_less i h3⟩
theorem placedWrong_nil (l:List PV) (v:Value) (w:World) (hrow:Zax w.heap.size w v l) (hfit:∀ x∈l,x.mod.fits) :
  Calls Tryz.prog 121 #[v,.slice none 0 0] w fun e w'=>e=.returned (.int .i64 (if 8<l.length then 2 else ZaW (fun _=>0) (l.map PV.plc)))∧Below w.heap.size w w':=by
 have HC0:Hid (∀ x∈l,∀ W,Below w.heap.size w W→Calls Tryz.prog 64 #[x.modV] W fun e w'=>e=.returned (.int .i64 (Zac x.mod))∧Below W.heap.size W w'):=fun x hx W hb=>check_any x.mod x.modV W (((hrow.2 x hx).below hb).more hb.size |>.isMod) (hfit x hx);have hat:=hrow.2;obtain ⟨⟨a,cap,rfl,_,hrow⟩,_⟩:=hrow
 by_cases h8:8<l.length
 ·rw [if_pos h8]
  have h8':(8:Int)<l.length:=by omega
  clear HC0 hat hrow
  go_enter Tryz.func121,Tryz.ntmps121
  go_wp2;go_ret;exact ⟨rfl,Below.refl _ _⟩
 ·rw [if_neg h8]
  have h8':decide ((8:Int)<l.length)=false:=decide_eq_false (by omega);have h8'':decide (8<l.length)=false:=decide_eq_false (by omega)
  go_enter Tryz.func121,Tryz.ntmps121
  go_wp2_with fail
  go_loopw [16] (fun i wr=>∃ (k:Nat),k≤l.length∧i=.int .i64 k∧Hid (ZaW (fun _=>0) (l.map PV.plc)=ZaW (fun _=>0) ((l.drop k).map PV.plc))∧Below w.heap.size w wr) (fun i _=>l.length-(intOf i).toNat)
  case atStart=>exact ⟨0,Nat.zero_le _,rfl,by show ZaW _ (l.map PV.plc)=ZaW _ ((l.drop 0).map PV.plc);rfl,Below.refl _ _⟩
  case round=>
   obtain ⟨k,hk,rfl,HC,B⟩:=hrel
   by_cases hlt:k<l.length
   ·obtain ⟨x,hx⟩:∃ x,l[k]?=some x:=⟨_,List.getElem?_eq_getElem hlt⟩
    rcases hrow with h | ⟨b,off,rfl,hbn,hcells⟩
    ·subst h;simp at hlt
    have key:=chkBy_step (fun _=>0) x.plc ((l.drop (k+1)).map PV.plc);have HR:Hid (ZaW (fun _=>0) (l.map PV.plc)=ZaW (fun _=>0) (x.plc::(l.drop (k+1)).map PV.plc)):=by
     show ZaW _ (l.map PV.plc)=_
     rw [HC.out,drop_at hx];rfl
    have HM:Hid (∀ W,Below w.heap.size w W→Calls Tryz.prog 64 #[x.modV] W fun e w'=>e=.returned (.int .i64 (Zac x.mod))∧Below W.heap.size W w'):=HC0.out x (List.mem_of_getElem? hx);obtain ⟨⟨pe,ke,e4,_⟩,⟨pi,ki,e5,_⟩,⟨pp,kp,e6,_⟩⟩:=hat x (List.mem_of_getElem? hx);obtain ⟨⟨N,ma,mi,T,es,is,ps⟩,ve,vi,vp,fi⟩:=x;dsimp only at e4 e5 e6;subst e4 e5 e6;have c0:=(B.cell (p:=⟨b,off+k*8+0,none⟩) hbn).trans (hcells k _ hx 0 (by omega));have c1:=(B.cell (p:=⟨b,off+k*8+1,none⟩) hbn).trans (hcells k _ hx 1 (by omega));have c2:=(B.cell (p:=⟨b,off+k*8+2,none⟩) hbn).trans (hcells k _ hx 2 (by omega));have c3:=(B.cell (p:=⟨b,off+k*8+3,none⟩) hbn).trans (hcells k _ hx 3 (by omega));have c4:=(B.cell (p:=⟨b,off+k*8+4,none⟩) hbn).trans (hcells k _ hx 4 (by omega));have c5:=(B.cell (p:=⟨b,off+k*8+5,none⟩) hbn).trans (hcells k _ hx 5 (by omega));have c6:=(B.cell (p:=⟨b,off+k*8+6,none⟩) hbn).trans (hcells k _ hx 6 (by omega));have c7:=(B.cell (p:=⟨b,off+k*8+7,none⟩) hbn).trans (hcells k _ hx 7 (by omega));dsimp only [PV.cell,PV.modV] at c0 c1 c2 c3 c4 c5 c6 c7 HM;rw [Nat.add_zero] at c0;clear HC HC0 hcells hx hat;dsimp only [PV.plc] at key HR;generalize Zac ⟨N,ma,mi,T,es,is,ps⟩=cm at key HM;generalize ZaW (fun _=>0) (⟨⟨N,ma,mi,T,es,is,ps⟩,fi⟩::(l.drop (k+1)).map PV.plc)=R at key HR;generalize es.length=le at *;generalize is.length=li at *;generalize ps.length=lp at *;have HBB:Hid (Below w.heap.size w (wr.alloc (.cells #[.string N,.int .i64 ma,.int .i64 mi,.string T,.slice pe le ke,.slice pi li ki,.slice pp lp kp,.int .i64 fi] 57))):=B.alloc B.size _;go_wp2_with fail;refine (HM.out _ HBB.out).mono ?_;rintro e w2 ⟨rfl,b2⟩;have B2:=HBB.out.trans (b2.mono HBB.out.size);clear HBB b2 c0 c1 c2 c3 c4 c5 c6 c7
    rcases key with ⟨h1,rfl⟩ | ⟨rfl,h2,_⟩ | ⟨rfl,_,rfl⟩
    ·have h1':(R != 0)=true:=by simpa using h1
     go_wp2;go_ret;exact ⟨by rw [HR.out];rfl,B2⟩
    ·exact absurd rfl h2
    ·go_wp2_with fail
     go_loopw [28] (fun j wq=>j=.int .i64 0∧Below w.heap.size w wq) (fun _ _=>0)
     case atStart=>exact ⟨rfl,B2⟩
     case round=>
      obtain ⟨rfl,B3⟩:=hrel;go_wp2;exact ⟨⟨k+1,by omega,by go_num,HR.out,B3⟩,by simp [intOf];omega⟩
   ·obtain rfl:k=l.length:=by omega
    have HZ:Hid (ZaW (fun _=>0) (l.map PV.plc)=0):=by
     show ZaW _ (l.map PV.plc)=0
     rw [HC.out,List.drop_length];rfl
    go_wp2;go_ret;exact ⟨by rw [HZ.out];rfl,B⟩
theorem placedWrong_one (l:List PV) (v:Value) (b1:Nat) (K:FuncId) (q:Plc→Int) (w:World) (hrow:Zax w.heap.size w v l) (hfit:∀ x∈l,x.mod.fits)
  (hb1:b1<w.heap.size) (hcell:w.cell? ⟨b1,0,none⟩=some (.func (.func K) #[] #[]))
  (hK:∀ w x,Sem.run Tryz.prog (callFunc K #[x]) w=.ok (.enter K #[x]) w)
  (hq:∀ x∈l,Zac x.mod=0→∀ W,Below w.heap.size w W→Calls Tryz.prog K #[x.val] W fun e w'=>e=.returned (.int .i64 (q x.plc))∧Below W.heap.size W w') :
  Calls Tryz.prog 121 #[v,.slice (some ⟨b1,0,none⟩) 1 1] w fun e w'=>e=.returned (.int .i64 (if 8<l.length then 2 else ZaW q (l.map PV.plc)))∧Below w.heap.size w w':=by
 have HC0:Hid (∀ x∈l,∀ W,Below w.heap.size w W→Calls Tryz.prog 64 #[x.modV] W fun e w'=>e=.returned (.int .i64 (Zac x.mod))∧Below W.heap.size W w'):=fun x hx W hb=>check_any x.mod x.modV W (((hrow.2 x hx).below hb).more hb.size |>.isMod) (hfit x hx);have HQ0:Hid (∀ x∈l,Zac x.mod=0→∀ W,Below w.heap.size w W→Calls Tryz.prog K #[x.val] W fun e w'=>e=.returned (.int .i64 (q x.plc))∧Below W.heap.size W w'):=hq;clear hq;have hat:=hrow.2;obtain ⟨⟨a,cap,rfl,_,hrow⟩,_⟩:=hrow
 by_cases h8:8<l.length
 ·rw [if_pos h8]
  have h8':(8:Int)<l.length:=by omega
  clear HC0 HQ0 hat hrow
  go_enter Tryz.func121,Tryz.ntmps121
  go_wp2;go_ret;exact ⟨rfl,Below.refl _ _⟩
 ·rw [if_neg h8]
  have h8':decide ((8:Int)<l.length)=false:=decide_eq_false (by omega);have h8'':decide (8<l.length)=false:=decide_eq_false (by omega)
  go_enter Tryz.func121,Tryz.ntmps121
  go_wp2_with fail
  go_loopw [16] (fun i wr=>∃ (k:Nat),k≤l.length∧i=.int .i64 k∧Hid (ZaW q (l.map PV.plc)=ZaW q ((l.drop k).map PV.plc))∧Below w.heap.size w wr) (fun i _=>l.length-(intOf i).toNat)
  case atStart=>exact ⟨0,Nat.zero_le _,rfl,by show ZaW q (l.map PV.plc)=ZaW q ((l.drop 0).map PV.plc);rfl,Below.refl _ _⟩
  case round=>
   obtain ⟨k,hk,rfl,HC,B⟩:=hrel
   by_cases hlt:k<l.length
   ·obtain ⟨x,hx⟩:∃ x,l[k]?=some x:=⟨_,List.getElem?_eq_getElem hlt⟩
    rcases hrow with h | ⟨b,off,rfl,hbn,hcells⟩
    ·subst h;simp at hlt
    have key:=chkBy_step q x.plc ((l.drop (k+1)).map PV.plc);have HR:Hid (ZaW q (l.map PV.plc)=ZaW q (x.plc::(l.drop (k+1)).map PV.plc)):=by
     show ZaW q (l.map PV.plc)=_
     rw [HC.out,drop_at hx];rfl
    have HM:Hid (∀ W,Below w.heap.size w W→Calls Tryz.prog 64 #[x.modV] W fun e w'=>e=.returned (.int .i64 (Zac x.mod))∧Below W.heap.size W w'):=HC0.out x (List.mem_of_getElem? hx);have HQ:Hid (Zac x.mod=0→∀ W,Below w.heap.size w W→Calls Tryz.prog K #[x.val] W fun e w'=>e=.returned (.int .i64 (q x.plc))∧Below W.heap.size W w'):=HQ0.out x (List.mem_of_getElem? hx);obtain ⟨⟨pe,ke,e4,_⟩,⟨pi,ki,e5,_⟩,⟨pp,kp,e6,_⟩⟩:=hat x (List.mem_of_getElem? hx);obtain ⟨⟨N,ma,mi,T,es,is,ps⟩,ve,vi,vp,fi⟩:=x;dsimp only at e4 e5 e6;subst e4 e5 e6;have c0:=(B.cell (p:=⟨b,off+k*8+0,none⟩) hbn).trans (hcells k _ hx 0 (by omega));have c1:=(B.cell (p:=⟨b,off+k*8+1,none⟩) hbn).trans (hcells k _ hx 1 (by omega));have c2:=(B.cell (p:=⟨b,off+k*8+2,none⟩) hbn).trans (hcells k _ hx 2 (by omega));have c3:=(B.cell (p:=⟨b,off+k*8+3,none⟩) hbn).trans (hcells k _ hx 3 (by omega));have c4:=(B.cell (p:=⟨b,off+k*8+4,none⟩) hbn).trans (hcells k _ hx 4 (by omega));have c5:=(B.cell (p:=⟨b,off+k*8+5,none⟩) hbn).trans (hcells k _ hx 5 (by omega));have c6:=(B.cell (p:=⟨b,off+k*8+6,none⟩) hbn).trans (hcells k _ hx 6 (by omega));have c7:=(B.cell (p:=⟨b,off+k*8+7,none⟩) hbn).trans (hcells k _ hx 7 (by omega));dsimp only [PV.cell,PV.modV] at c0 c1 c2 c3 c4 c5 c6 c7 HM;dsimp only [PV.val] at HQ;rw [Nat.add_zero] at c0;clear HC HC0 HQ0 hcells hx hat;dsimp only [PV.plc] at key HR HQ;generalize Zac ⟨N,ma,mi,T,es,is,ps⟩=cm at key HM HQ;generalize ZaW q (⟨⟨N,ma,mi,T,es,is,ps⟩,fi⟩::(l.drop (k+1)).map PV.plc)=R at key HR;generalize q ⟨⟨N,ma,mi,T,es,is,ps⟩,fi⟩=qx at key HQ;generalize es.length=le at *;generalize is.length=li at *;generalize ps.length=lp at *;have HBB:Hid (Below w.heap.size w (wr.alloc (.cells #[.string N,.int .i64 ma,.int .i64 mi,.string T,.slice pe le ke,.slice pi li ki,.slice pp lp kp,.int .i64 fi] 57))):=B.alloc B.size _;have HCA:Hid (Za (wr.alloc (.cells #[.string N,.int .i64 ma,.int .i64 mi,.string T,.slice pe le ke,.slice pi li ki,.slice pp lp kp,.int .i64 fi] 57)) wr.heap.size 57 #[.string N,.int .i64 ma,.int .i64 mi,.string T,.slice pe le ke,.slice pi li ki,.slice pp lp kp,.int .i64 fi]):=Za.new _ _ _;go_wp2_with fail;refine (HM.out _ HBB.out).mono ?_;rintro e w2 ⟨rfl,b2⟩;have B2:=HBB.out.trans (b2.mono HBB.out.size);have C2:=HCA.out.below b2 HCA.out.lt;clear HBB HCA b2 c0 c1 c2 c3 c4 c5 c6 c7
    rcases key with ⟨h1,rfl⟩ | ⟨rfl,h2,rfl⟩ | ⟨rfl,rfl,rfl⟩
    ·have h1':(R != 0)=true:=by simpa using h1
     clear C2;go_wp2;go_ret;exact ⟨by rw [HR.out];rfl,B2⟩
    ·go_wp2_with fail
     go_loopw [28] (fun j wq=>j=.int .i64 0∧Below w2.heap.size w2 wq) (fun j _=>1-(intOf j).toNat)
     case atStart=>exact ⟨rfl,Below.refl _ _⟩
     case round=>
      obtain ⟨rfl,B3⟩:=hrel;have BB:=B2.trans (B3.mono B2.size);have C3:=C2.below B3 C2.lt;have t0:=C3.cell 0;have t1:=C3.cell 1;have t2:=C3.cell 2;have t3:=C3.cell 3;have t4:=C3.cell 4;have t5:=C3.cell 5;have t6:=C3.cell 6;have t7:=C3.cell 7;simp at t0 t1 t2 t3 t4 t5 t6 t7;have tf:=(BB.cell (p:=⟨b1,0,none⟩) hb1).trans hcell;clear C2 C3;go_wp2_with fail;refine Calls.mono (HQ.out (by first | rfl | trivial) _ BB) ?_;rintro e w4 ⟨rfl,b4⟩;have B4:=BB.trans (b4.mono BB.size);have B34:=B3.trans (b4.mono B3.size);clear HQ t0 t1 t2 t3 t4 t5 t6 t7 tf b4;have h2':(R != 0)=true:=by simpa using h2
      go_wp2;go_ret;exact ⟨by rw [HR.out];rfl,B4⟩
    ·go_wp2_with fail
     go_loopw [28] (fun j wq=>((j=.int .i64 0∧True)∨(j=.int .i64 1∧True))∧Below w2.heap.size w2 wq) (fun j _=>1-(intOf j).toNat)
     case atStart=>exact ⟨.inl ⟨rfl,trivial⟩,Below.refl _ _⟩
     case round=>
      obtain ⟨hj,B3⟩:=hrel
      rcases hj with ⟨rfl,_⟩ | ⟨rfl,_⟩
      ·have BB:=B2.trans (B3.mono B2.size)
       have C3:=C2.below B3 C2.lt;have t0:=C3.cell 0;have t1:=C3.cell 1;have t2:=C3.cell 2;have t3:=C3.cell 3;have t4:=C3.cell 4;have t5:=C3.cell 5;have t6:=C3.cell 6;have t7:=C3.cell 7;simp at t0 t1 t2 t3 t4 t5 t6 t7;have tf:=(BB.cell (p:=⟨b1,0,none⟩) hb1).trans hcell;clear C2 C3;go_wp2_with fail;refine Calls.mono (HQ.out (by first | rfl | trivial) _ BB) ?_;rintro e w4 ⟨rfl,b4⟩;have B4:=BB.trans (b4.mono BB.size);have B34:=B3.trans (b4.mono B3.size);clear HQ t0 t1 t2 t3 t4 t5 t6 t7 tf b4;go_wp2;exact ⟨⟨.inr ⟨rfl,trivial⟩,B34⟩,by simp [intOf]⟩
      ·have BB:=B2.trans (B3.mono B2.size)
       clear C2;go_wp2;exact ⟨⟨k+1,by omega,by go_num,HR.out,BB⟩,by simp [intOf];omega⟩
   ·obtain rfl:k=l.length:=by omega
    have HZ:Hid (ZaW q (l.map PV.plc)=0):=by
     show ZaW q (l.map PV.plc)=0
     rw [HC.out,List.drop_length];rfl
    go_wp2;go_ret;exact ⟨by rw [HZ.out];rfl,B⟩
theorem kernel_any (K:Ker) (v:Value) (w:World) (hK:Zcd w.heap.size w v K) (hf:K.fits) :
  Calls Tryz.prog 72 #[v] w fun e w'=>e=.returned (.int .i64 (ZaS K))∧Below w.heap.size w w':=by
 obtain ⟨ve,rfl,hE⟩:=hK;have HE:Hid (∀ w',Below w.heap.size w w'→K.exps.length≤8→Calls Tryz.prog 118 #[ve,.int .i64 4096] w' fun e w''=>e=.returned (.int .i64 (Zay 4096 [] K.exps))∧Below w'.heap.size w' w''):=
  fun w' hb hl=>wrongExports_any K.exps ve _ w' ((hE.below hb).more hb.size) hf hl
 obtain ⟨pe,ke,rfl,_,hE⟩:=hE;clear hE hf;have key:(Zcg K.major K.minor=false∧ZaS K=3)∨(Zcg K.major K.minor=true∧8<K.exps.length∧ZaS K=2)∨(Zcg K.major K.minor=true∧K.exps.length≤8∧ZaS K=Zay 4096 [] K.exps):=by
  unfold ZaS
  cases h1:Zcg K.major K.minor
  ·exact .inl ⟨rfl,rfl⟩
  ·by_cases h2:8<K.exps.length
   ·exact .inr (.inl ⟨rfl,h2,by rw [if_neg (by decide),if_pos h2]⟩)
   ·exact .inr (.inr ⟨rfl,by omega,by rw [if_neg (by decide),if_neg h2]⟩)
 generalize ZaS K=R at *;generalize Zay 4096 [] K.exps=ce at *;obtain ⟨ma,mi,es⟩:=K;dsimp only at *;generalize es.length=le at *;have HW1:Hid (Below w.heap.size w (w.alloc (.cells #[.int .i64 ma,.int .i64 mi,.slice pe le ke] 24))):=(Below.refl _ _).alloc (Nat.le_refl _) _
 rcases key with ⟨h1,rfl⟩ | ⟨h1,h2,rfl⟩ | ⟨h1,h2,rfl⟩
 ·go_enter Tryz.func72,Tryz.ntmps72
  go_wp2_with (go_at_call 116;refine (ZbU _ _ _).mono ?_;rintro e w' ⟨rfl,rfl⟩);go_ret;exact ⟨rfl,HW1.out⟩
 ·have h2':(8:Int)<le:=by omega
  go_enter Tryz.func72,Tryz.ntmps72
  go_wp2_with (go_at_call 116;refine (ZbU _ _ _).mono ?_;rintro e w' ⟨rfl,rfl⟩);go_ret;exact ⟨rfl,HW1.out⟩
 ·have h2':decide ((8:Int)<le)=false:=decide_eq_false (by omega)
  have h2'':decide (8<le)=false:=decide_eq_false (by omega)
  go_enter Tryz.func72,Tryz.ntmps72
  go_wp2_with (go_at_call 116;refine (ZbU _ _ _).mono ?_;rintro e w' ⟨rfl,rfl⟩);refine (HE.out _ HW1.out h2).mono ?_;rintro e w1 ⟨rfl,b1⟩;go_wp2;go_ret;exact ⟨rfl,HW1.out.trans (b1.mono HW1.out.size)⟩
theorem far_any (x:PV) (n₀:Nat) (w:World) (hat:ZbH n₀ w x) :
  Calls Tryz.prog 138 #[x.val] w fun e w'=>e=.returned (.int .i64 (farErr x.plc))∧Below w.heap.size w w':=by
 have key:(x.first<0∧farErr x.plc=3)∨(0≤x.first∧15<x.first∧farErr x.plc=3)∨(0≤x.first∧x.first≤15∧farErr x.plc=0):=by
  unfold farErr PV.plc;dsimp only
  by_cases g1:x.first<0
  ·exact .inl ⟨g1,by rw [Zar (.inl g1),if_pos rfl]⟩
  by_cases g2:15<x.first
  ·exact .inr (.inl ⟨by omega,g2,by rw [Zar (.inr g2),if_pos rfl]⟩)
  ·exact .inr (.inr ⟨by omega,by omega,by rw [ZaL (by omega) (by omega),if_neg (by decide)]⟩)
 generalize farErr x.plc=oe at *;unfold PV.val;obtain ⟨⟨pe,ke,e4,_⟩,⟨pi,ki,e5,_⟩,⟨pp,kp,e6,_⟩⟩:=hat;obtain ⟨⟨N,ma,mi,T,es,is,ps⟩,ve,vi,vp,fi⟩:=x;dsimp only at *;subst e4 e5 e6;generalize es.length=le at *;generalize is.length=li at *;generalize ps.length=lp at *;have B2:Hid (Below w.heap.size w (w.alloc (.cells #[.string N,.int .i64 ma,.int .i64 mi,.string T,.slice pe le ke,.slice pi li ki,.slice pp lp kp,.int .i64 fi] 57))):=(Below.refl _ _).alloc (Nat.le_refl _) _
 rcases key with ⟨h1,rfl⟩ | ⟨h1,h2,rfl⟩ | ⟨h1,h2,rfl⟩
 ·go_enter Tryz.func138,Tryz.ntmps138
  go_wp2;go_ret;exact ⟨rfl,B2.out⟩
 ·have h1':decide (fi<0)=false:=decide_eq_false (by omega)
  have h2':(16:Int)≤fi:=by omega
  go_enter Tryz.func138,Tryz.ntmps138
  go_wp2;go_ret;exact ⟨rfl,B2.out⟩
 ·have h1':decide (fi<0)=false:=decide_eq_false (by omega)
  have h2':decide ((16:Int)≤fi)=false:=decide_eq_false (by omega)
  go_enter Tryz.func138,Tryz.ntmps138
  go_wp2;go_ret;exact ⟨rfl,B2.out⟩
theorem wrongPlaces_any (K:Ker) (vk:Value) (l:List PV) (v:Value) (w:World) (hK:Zcd w.heap.size w vk K) (hf:K.fits) (hrow:Zax w.heap.size w v l) (hfit:∀ x∈l,x.mod.fits) :
  Calls Tryz.prog 86 #[vk,v] w fun e w'=>e=.returned (.int .i64 (ZaQ K (l.map PV.plc)))∧Below w.heap.size w w':=by
 have HK:Hid (∀ w',Below w.heap.size w w'→Calls Tryz.prog 72 #[vk] w' fun e w''=>e=.returned (.int .i64 (ZaS K))∧Below w'.heap.size w' w''):=fun w' hb=>kernel_any K vk w' ((hK.below hb).more hb.size) hf;have HP:Hid (∀ (W:World) (t:TypeId),Below w.heap.size w W→Calls Tryz.prog 121 #[v,.slice (some ⟨W.heap.size,0,none⟩) 1 1] (W.alloc (.cells #[.func (.func 138) #[] #[]] t)) fun e w'=>e=.returned (.int .i64 (chkPlaced (l.map PV.plc)))∧Below (W.heap.size+1) (W.alloc (.cells #[.func (.func 138) #[] #[]] t)) w'):=by
  intro W t hb;have hb1:Below w.heap.size w (W.alloc (.cells #[.func (.func 138) #[] #[]] t)):=hb.alloc hb.size _
  have:=placedWrong_one l v W.heap.size 138 farErr (W.alloc (.cells #[.func (.func 138) #[] #[]] t)) ((hrow.below hb1).more hb1.size) hfit (by simp) (by simp) (fun w x=>enters_of Tryz.func138 (by kernel_rfl) rfl _ w) (fun x hx _ W' hb'=>far_any x _ W' (((hrow.2 x hx).below hb1).more hb1.size |>.below hb'))
  refine this.mono ?_;rintro e w' ⟨rfl,b⟩;refine ⟨?_,by simpa using b⟩;unfold chkPlaced;rw [chkPls_by,List.length_map]
 obtain ⟨vke,ek,hE⟩:=hK;obtain ⟨⟨a,cap,rfl,_,hrow⟩,_⟩:=hrow;have key:(ZaS K≠0∧ZaQ K (l.map PV.plc)=ZaS K)∨(ZaS K=0∧ZaQ K (l.map PV.plc)=chkPlaced (l.map PV.plc)):=by
  unfold ZaQ
  by_cases h:ZaS K=0
  ·exact .inr ⟨h,by rw [if_neg (by omega)]⟩
  ·exact .inl ⟨h,by rw [if_pos h]⟩
 generalize ZaQ K (l.map PV.plc)=R at *;generalize chkPlaced (l.map PV.plc)=cp at *;generalize ZaS K=ck at *;subst ek;clear hrow;obtain ⟨pe,ke,rfl,_,_⟩:=hE;have HW1:Hid (Below w.heap.size w (w.alloc (.cells #[.int .i64 K.major,.int .i64 K.minor,.slice pe K.exps.length ke] 24))):=(Below.refl _ _).alloc (Nat.le_refl _) _
 go_enter Tryz.func86,Tryz.ntmps86
 go_wp2_with fail;refine (HK.out _ HW1.out).mono ?_;rintro e w1 ⟨rfl,b1⟩;have B1:=HW1.out.trans (b1.mono HW1.out.size);clear HW1 b1 HK
 rcases key with ⟨h0,rfl⟩ | ⟨rfl,rfl⟩
 ·have h0':(R != 0)=true:=by simpa using h0
  clear HP;go_wp2;go_ret;exact ⟨rfl,B1⟩
 ·go_wp2_with fail
  refine (HP.out w1 _ B1).mono ?_;rintro e w2 ⟨rfl,b2⟩;have B2:=(B1.alloc B1.size _).trans (b2.mono (by have:=B1.size;omega));clear HP b2;go_wp2;go_ret;exact ⟨rfl,B2⟩
end Go.Proofs.YtlpnfbpgnfappaaGreat
namespace Go.Proofs.YtlpnfbpgnfappaaGreat
section
variable {P : Program} {ops : Array Oper} {Q : Exit → Act → World → Prop} {md : Region.Mode} {S : World → Prop}
def wpL (P:Program) (md:Region.Mode) (ops:Array Oper) (Q:Exit→Act→World→Prop) (S:World→Prop) (x:Nat):Nat→Array Bool→Act→World→Prop
 | 0,listed,a,w=>Region.ready md ops listed=[]∧Q .normal a w
 | fuel+1,listed,a,w=>
  (Region.ready md ops listed=[]→Q .normal a w)∧
  ∀ i∈Region.ready md ops listed,wpOp P ops Q i (fun a' w'=>(i≠x→S w')∧wpL P md ops Q S x fuel (listed.setIfInBounds i true) a' w') a w
theorem wpAny_of_L {x:Nat}:∀ (fuel:Nat) (listed:Array Bool) (a:Act) (w:World),wpL P md ops Q S x fuel listed a w→wpAny P md ops Q fuel listed a w
 | 0,_,_,_,h=>h
 | fuel+1,_,_,_,h=>⟨h.1,fun i hi=>wpOp_mono (fun a' w' h'=>wpAny_of_L fuel _ a' w' h'.2) (h.2 i hi)⟩
def Closed (md:Region.Mode) (ops:Array Oper) (listed:Array Bool):Prop:=∀ j o,listed.getD j false=true→ops[j]?=some o→∀ e∈o.after,Region.binds md e=true→listed.getD e.on false=true
theorem Closed.set {listed:Array Bool} {j:Nat} (h:Closed md ops listed) (hj:j∈Region.ready md ops listed):Closed md ops (listed.setIfInBounds j true):=by
 intro k o hk ho e he hb;obtain ⟨_,oj,hoj,hall⟩:=mem_ready.1 hj
 by_cases hjk:j=k
 ·subst hjk
  rw [hoj] at ho;injection ho with ho;subst ho;exact getD_set_true (hall e he hb)
 ·rw [getD_set_ne false hjk] at hk
  exact getD_set_true (h k o hk ho e he hb)
def Covers (md:Region.Mode) (ops:Array Oper) (x:Nat):Prop:=∀ k,k<x→∃ j o e,k<j∧j≤x∧ops[j]?=some o∧e∈o.after∧Region.binds md e=true∧e.on=k
theorem covers_all {x:Nat} {listed:Array Bool} (hc:Covers md ops x) (hl:Closed md ops listed) (hx:x∈Region.ready md ops listed):∀ k,k<x→listed.getD k false=true:=by
 obtain ⟨_,ox,hox,hall⟩:=mem_ready.1 hx;have key:∀ m k,x-k≤m→k<x→listed.getD k false=true:=by
  intro m
  induction m with
  | zero=>intro k h1 h2;omega
  | succ m ih=>
   intro k h1 h2;obtain ⟨j,o,e,h3,h4,h5,h6,h7,rfl⟩:=hc k h2
   by_cases hjx:j=x
   ·subst hjx
    rw [hox] at h5;injection h5 with h5;subst h5;exact hall e h6 h7
   ·exact hl j o (ih j (by omega) (by omega)) h5 e h6 h7
 exact fun k hk=>key (x-k) k (Nat.le_refl _) hk
theorem wpL_first {i x:Nat} {oi:Oper} {v:Value} (hi:ops[i]?=some oi) (hsel:∀ (j:Nat) (o:Oper) cs b,ops[j]?=some o→o.op≠.select cs b)
  (hQ:∀ c a w,Q (.panic c) (a.put oi.dst v) w→Q (.panic c) a w) (hc:Covers md ops x) (hix:i<x) :
  ∀ (fuel:Nat) (listed:Array Bool) (a:Act) (w:World),
   (∀ j oj,ops[j]?=some oj→j≠i→listed.getD j true=false→(∀ e∈oj.after,Region.binds md e=true→e.on≠i)→oi.apart ops oj=true)→
   Closed md ops listed→i∈Region.ready md ops listed→YieldsIf P ops S oi v a→S w→
   wpL P md ops Q S x fuel (listed.setIfInBounds i true) (a.put oi.dst v) w→wpL P md ops Q S x (fuel+1) listed a w:=by
 intro fuel
 induction fuel with
 | zero=>
  intro listed a w _ _ hr hy hS H;refine ⟨fun h=>(by rw [h] at hr;cases hr),fun j hj=>?_⟩
  by_cases hji:j=i
  ·subst hji;exact hy.wpOp hi hS ⟨fun _=>hS,H⟩
  ·have:=ready_mono hj hji
   rw [H.1] at this
   cases this
 | succ fuel ih=>
  intro listed a w hfree hcl hr hy hS H;refine ⟨fun h=>(by rw [h] at hr;cases hr),fun j hj=>?_⟩
  by_cases hji:j=i
  ·subst hji;exact hy.wpOp hi hS ⟨fun _=>hS,H⟩
  ·have hi0:listed.getD i true=false:=(mem_ready.1 hr).1
   have hi1:listed.getD i false=false:=by
    rcases Nat.lt_or_ge i listed.size with h' | h'
    ·simpa [h'] using hi0
    ·simp [Array.getElem?_eq_none h'] at hi0
   have hjx:j≠x:=fun e=>by
    subst e
    have:=covers_all hc hcl hj i hix
    rw [hi1] at this
    cases this
   have h1:=H.2 j (ready_mono hj hji);obtain ⟨hjun,oj,hoj,hall⟩:=mem_ready.1 hj;have hnot:∀ e∈oj.after,Region.binds md e=true→e.on≠i:=fun e he hb heq=>by
    have h2:=hall e he hb;rw [heq,hi1] at h2
    cases h2
   have h2:=wpOp_putIf hoj (hfree j oj hoj hji hjun hnot) (fun cs b=>hsel i oi cs b hi) (fun cs b=>hsel j oj cs b hoj) hQ hy h1;have hfree':∀ k ok,ops[k]?=some ok→k≠i→(listed.setIfInBounds j true).getD k true=false→
     (∀ e∈ok.after,Region.binds md e=true→e.on≠i)→oi.apart ops ok=true:=fun k ok hk hki hun hno=>by
    refine hfree k ok hk hki ?_ hno
    by_cases hjk:j=k
    ·subst hjk;exact hjun
    ·rw [getD_set_ne true hjk] at hun;exact hun
   refine wpOp_mono (fun a' w' h3=>⟨h3.2.1,ih (listed.setIfInBounds j true) a' w' hfree' (hcl.set hj) (ready_mono hr (Ne.symm hji)) h3.1 (h3.2.1 hjx) ?_⟩) h2;rw [Array.setIfInBounds_comm _ _ hji];exact h3.2.2
def closedB (md:Region.Mode) (ops:Array Oper) (listed:Array Bool):Bool:=
 (List.range listed.size).all fun j=>!listed.getD j false || ((ops[j]?).map (·.after.all fun e=>!Region.binds md e || listed.getD e.on false)).getD true
theorem closedB_spec {listed:Array Bool} (h:closedB md ops listed=true):Closed md ops listed:=by
 intro j o hj ho e he hb;have hlt:j<listed.size:=by
  rcases Nat.lt_or_ge j listed.size with h' | h'
  ·exact h'
  ·simp [Array.getElem?_eq_none h'] at hj
 simp only [closedB,List.all_eq_true,List.mem_range] at h;have h1:=h j hlt;rw [hj,ho] at h1;simp only [Bool.not_true,Bool.false_or,Option.map_some,Option.getD_some,Array.all_eq_true_iff_forall_mem] at h1;have h2:=h1 e he;rw [hb] at h2
 simpa using h2
def coversB (md:Region.Mode) (ops:Array Oper) (x:Nat):Bool:=
 (List.range x).all fun k=>(List.range (x+1)).any fun j=>decide (k<j) && ((ops[j]?).map (·.after.any fun e=>Region.binds md e && e.on == k)).getD false
theorem coversB_spec {x:Nat} (h:coversB md ops x=true):Covers md ops x:=by
 intro k hk;simp only [coversB,List.all_eq_true,List.mem_range] at h;have h1:=h k hk;simp only [List.any_eq_true,List.mem_range,Bool.and_eq_true,decide_eq_true_eq] at h1;obtain ⟨j,hj,hkj,hh⟩:=h1
 cases ho:ops[j]? with
 | none=>rw [ho] at hh;simp at hh
 | some o=>
  rw [ho] at hh;simp only [Option.map_some,Option.getD_some] at hh;obtain ⟨e,he,hb⟩:=Array.any_eq_true'.1 hh;simp only [Bool.and_eq_true,beq_iff_eq] at hb;exact ⟨j,o,e,hkj,by omega,ho,he,hb.1,hb.2⟩
theorem Zaa (i:Nat) {x:Nat} (d:Nat) (v:Value) {oi:Oper} {fuel:Nat} {listed:Array Bool} {tm:Array Value} {df:List Deferred} {w:World} (hi:ops[i]?=some oi)
  (hb:(Region.noSelect ops && (Region.free md ops listed i && ((Region.ready md ops listed).contains i && (closedB md ops listed && (coversB md ops x && decide (i<x))))))=true)
  (hQ:∀ c a w,Q (.panic c) (a.put oi.dst v) w→Q (.panic c) a w) (hS:S w) (hd:oi.dst=some d) (hg:oi.guard=none) (hy:∀ w,S w→(execOp (Act.eval ⟨tm,df⟩) oi).run P w=.ok (.value v) w)
  (h:wpL P md ops Q S x fuel (listed.setIfInBounds i true) ⟨tm.setIfInBounds d v,df⟩ w):wpL P md ops Q S x (fuel+1) listed ⟨tm,df⟩ w:=by
 simp only [Bool.and_eq_true,decide_eq_true_eq] at hb;obtain ⟨h1,h2,h3,h4,h5,h6⟩:=hb;refine wpL_first hi (Region.noSelect_spec h1) hQ (coversB_spec h5) h6 fuel listed ⟨tm,df⟩ w (Region.free_spec hi h2) (closedB_spec h4) (by simpa using h3) (.inl ⟨by simp [Region.wanted,hg],hy⟩) hS ?_;rw [hd];exact h
theorem Zam {i x:Nat} {o:Oper} {fuel:Nat} {listed:Array Bool} {a:Act} {w:World} (ho:ops[i]?=some o) (hr:Region.ready md ops listed=[i])
  (h:∀ K':Act→World→Prop,Shut (∀ a w,S w→(S w→wpL P md ops Q S x fuel (listed.setIfInBounds i true) a w)→K' a w)→if Region.wanted o (yielded ops a.tmps)=true then Oper.wp P o a w K' Q else K' (a.put o.dst undef) w) :
  wpL P md ops Q S x (fuel+1) listed a w:=by
 refine ⟨fun h0=>(by rw [hr] at h0;cases h0),fun j hj=>?_⟩;rw [hr] at hj;obtain rfl:j=i:=by simpa using hj
 exact wpOp_step ho (fun K' hK=>h K' (fun a w hS hW=>hK a w ⟨fun _=>hS,hW hS⟩))
theorem wpL_two {i j x:Nat} {o p:Oper} {fuel:Nat} {listed:Array Bool} {a:Act} {w:World} (ho:ops[i]?=some o) (hp:ops[j]?=some p) (hr:Region.ready md ops listed=[i,j])
  (h:∀ K':Act→World→Prop,Shut (∀ a w,S w→(S w→wpL P md ops Q S x fuel (listed.setIfInBounds i true) a w)→K' a w)→if Region.wanted o (yielded ops a.tmps)=true then Oper.wp P o a w K' Q else K' (a.put o.dst undef) w)
  (h2:∀ K':Act→World→Prop,Shut (∀ a w,S w→(S w→wpL P md ops Q S x fuel (listed.setIfInBounds j true) a w)→K' a w)→if Region.wanted p (yielded ops a.tmps)=true then Oper.wp P p a w K' Q else K' (a.put p.dst undef) w) :
  wpL P md ops Q S x (fuel+1) listed a w:=by
 refine ⟨fun h0=>(by rw [hr] at h0;cases h0),fun k hk=>?_⟩;rw [hr] at hk
 rcases List.mem_cons.1 hk with rfl | hk
 ·exact wpOp_step ho (fun K' hK=>h K' (fun a w hS hW=>hK a w ⟨fun _=>hS,hW hS⟩))
 ·obtain rfl:k=j:=by simpa using hk
  exact wpOp_step hp (fun K' hK=>h2 K' (fun a w hS hW=>hK a w ⟨fun _=>hS,hW hS⟩))
theorem Zbo {x:Nat} {o:Oper} {fuel:Nat} {listed:Array Bool} {a:Act} {w:World} (ho:ops[x]?=some o) (hr:Region.ready md ops listed=[x]) (hr2:Region.ready md ops (listed.setIfInBounds x true)=[])
  (h:∀ K':Act→World→Prop,Shut (∀ a w,Q .normal a w→K' a w)→if Region.wanted o (yielded ops a.tmps)=true then Oper.wp P o a w K' Q else K' (a.put o.dst undef) w) :
  wpL P md ops Q S x (fuel+1) listed a w:=by
 refine ⟨fun h0=>(by rw [hr] at h0;cases h0),fun j hj=>?_⟩;rw [hr] at hj;obtain rfl:j=x:=by simpa using hj
 refine wpOp_step ho (fun K' hK=>h K' (fun a w hq=>hK a w ⟨fun h=>absurd rfl h,?_⟩))
 cases fuel with
 | zero=>exact ⟨hr2,hq⟩
 | succ n=>exact ⟨fun _=>hq,by rw [hr2];simp⟩
theorem Zba {x:Nat} {id:Nat} {a:Act} {w:World} (hm:P.follows .mixedOrders=true)
  (h:wpL P .any ops Q S x ops.size (Array.replicate ops.size false) a w.drew):(Code.region id ops true).wp P Q a w:=
 wp_region_any hm (wpAny_of_L _ _ _ _ h)
end
end Go.Proofs.YtlpnfbpgnfappaaGreat
namespace Go.Proofs.YtlpnfbpgnfappaaGreat
open Go.RowKit Go.PlainAid
theorem addr_any (fi:Int) (w:World) (g0:0≤fi) (g1:fi≤15):Calls Tryz.prog 172 #[.int .i64 fi] w fun e w'=>e=.returned (.int .i64 (4096+fi*64))∧w'=w:=by
 go_enter Tryz.func172,Tryz.ntmps172
 go_wp2;go_ret;exact ⟨rfl,rfl⟩
theorem isNamed_any (B:Nat) (name:ByteArray) (x:PV) (w:World) (hlt:B<w.heap.size) (hB:w.cell? ⟨B,0,none⟩=some (.string name)) :
  Calls Tryz.prog 171 #[x.val,.pointer (some ⟨B,0,none⟩)] w fun e w'=>e=.returned (.bool (x.mod.name == name))∧Below w.heap.size w w':=by
 rw [← Zbg];obtain ⟨⟨N,ma,mi,T,es,is,ps⟩,ve,vi,vp,fi⟩:=x;dsimp only [PV.val]
 go_enter Tryz.func171,Tryz.ntmps171
 go_wp2;go_ret;exact ⟨rfl,(Below.refl _ _).alloc (Nat.le_refl _) _⟩
theorem isCalled_any (B:Nat) (name:ByteArray) (x:Exp) (w:World) (hlt:B<w.heap.size) (hB:w.cell? ⟨B,1,none⟩=some (.string name)) :
  Calls Tryz.prog 141 #[.agg #[.string x.name,.int .i64 x.pos],.pointer (some ⟨B,0,none⟩)] w fun e w'=>e=.returned (.bool (x.name == name))∧Below w.heap.size w w':=by
 rw [← Zbg];obtain ⟨N,ps⟩:=x;dsimp only
 go_enter Tryz.func141,Tryz.ntmps141
 go_wp2;go_ret;exact ⟨rfl,(Below.refl _ _).alloc (Nat.le_refl _) _⟩
def TgtV (n₀:Nat) (W:World) (r:Value):Option Tgt→Prop
 | none=>r=.tuple #[.agg #[.int .i64 0,.int .i64 0,.int .i64 0,.slice none 0 0],.bool false]
 | some t=>∃ ve,r=.tuple #[.agg #[.int .i64 t.major,.int .i64 t.minor,.int .i64 t.beg,ve],.bool true]∧Zal 2 Exp.cell n₀ W ve t.exps
theorem tgt_cases (K:Ker) (l:List PV) (name:ByteArray):((name == kernelName)=true∧tgtOf K (l.map PV.plc) name=some ⟨K.major,K.minor,0,K.exps⟩)∨
  ((name == kernelName)=false∧(l.find? (fun x=>x.mod.name == name)=none∧tgtOf K (l.map PV.plc) name=none∨∃ x,l.find? (fun x=>x.mod.name == name)=some x∧tgtOf K (l.map PV.plc) name=some ⟨x.mod.major,x.mod.minor,4096+x.first*64,x.mod.exps⟩)):=by
 unfold tgtOf
 cases h:name == kernelName
 ·refine .inr ⟨rfl,?_⟩
  rw [if_neg (by decide),List.find?_map];have e:((fun p:Plc=>p.mod.name == name) ∘ PV.plc)=fun x:PV=>x.mod.name == name:=rfl;rw [e]
  cases hf:l.find? (fun x=>x.mod.name == name) with
  | none=>exact .inl ⟨rfl,rfl⟩
  | some x=>exact .inr ⟨x,rfl,rfl⟩
 ·exact .inl ⟨rfl,by rw [if_pos rfl]⟩
theorem meant_any (K:Ker) (vk:Value) (l:List PV) (v:Value) (name:ByteArray) (w:World) (hK:Zcd w.heap.size w vk K) (hrow:Zax w.heap.size w v l) (hfst:∀ x∈l,0≤x.first∧x.first≤15) :
  Calls Tryz.prog 139 #[vk,v,.string name] w fun e w'=>(∃ r,e=.returned r∧TgtV w.heap.size w r (tgtOf K (l.map PV.plc) name))∧Below w.heap.size w w':=by
 obtain ⟨vke,rfl,hE⟩:=hK;have hE0:=hE;obtain ⟨pe,ke,rfl,_,_⟩:=hE;have HF:Hid (∀ W B,Below w.heap.size w W→B<W.heap.size→W.cell? ⟨B,0,none⟩=some (.string name)→Calls Tryz.prog 170 #[v,.func (.func 171) #[] #[.pointer (some ⟨B,0,none⟩)]] W fun e w'=>e=.returned (optPlc (l.find? fun x=>x.mod.name == name))∧Below W.heap.size W w'):=by
  intro W B hb hlt hB;exact firstPlc_any l v 171 (.pointer (some ⟨B,0,none⟩)) (fun w x=>enters_of Tryz.func171 (by kernel_rfl) rfl _ w) _ W ((hrow.below hb).more hb.size) (fun x _ W' hb'=>isNamed_any B name x W' (Nat.lt_of_lt_of_le hlt hb'.size) ((hb'.cell (p:=⟨B,0,none⟩) hlt).trans hB))
 have hat:=hrow.2;obtain ⟨⟨a,cap,rfl,_,_⟩,_⟩:=hrow
 rcases tgt_cases K l name with ⟨h1,h2⟩ | ⟨h1,⟨h2,h3⟩ | ⟨x,h2,h3⟩⟩
 ·rw [h2]
  rw [← Zcs] at h1;obtain ⟨ma,mi,es⟩:=K;dsimp only at *;clear HF hat
  go_enter Tryz.func139,Tryz.ntmps139
  go_wp2
  (try simp only [Exit.inBlock,Exit.then])
  have hF:Za (((w.alloc (.cells #[.int .i64 ma,.int .i64 mi,.slice pe es.length ke] 24)).alloc (.cells #[.string name] 9)).alloc (.cells #[.int .i64 ma,.int .i64 mi,.int .i64 0,.slice pe es.length ke] 165)) (w.heap.size+1+1) 165 #[.int .i64 ma,.int .i64 mi,.int .i64 0,.slice pe es.length ke]:=by
   have:=Za.new ((w.alloc (.cells #[.int .i64 ma,.int .i64 mi,.slice pe es.length ke] 24)).alloc (.cells #[.string name] 9)) 165 #[.int .i64 ma,.int .i64 mi,.int .i64 0,.slice pe es.length ke]
   rw [World.size_alloc,World.size_alloc] at this;exact this
  refine bodyPost_ret (Zab rfl _ _ _ _ _ _ _ rfl hF Tryz.underlying165 rfl (by kernel_rfl)) rfl ?_;exact ⟨⟨_,rfl,_,rfl,hE0⟩,(((Below.refl _ _).alloc (Nat.le_refl _) _).alloc (by simp) _).alloc (by simp;omega) _⟩
 ·rw [h3]
  rw [h2] at HF;rw [← Zcs] at h1;obtain ⟨ma,mi,es⟩:=K;dsimp only [optPlc] at *;clear hat;have HN:Hid ((((w.alloc (.cells #[.int .i64 ma,.int .i64 mi,.slice pe es.length ke] 24)).alloc (.cells #[.string name] 9)).alloc (.cells #[.int .i64 0,.int .i64 0,.int .i64 0,.slice none 0 0] 165)).cell? ⟨w.heap.size+1,0,none⟩=some (.string name)):=by
   have:=(Za.new (w.alloc (.cells #[.int .i64 ma,.int .i64 mi,.slice pe es.length ke] 24)) 9 #[.string name]).kept (World.grownBy_alloc _ (.cells #[.int .i64 0,.int .i64 0,.int .i64 0,.slice none 0 0] 165) none) (by simp)
   rw [World.size_alloc] at this;exact this.cell 0
  have HC3:Hid (Za (((w.alloc (.cells #[.int .i64 ma,.int .i64 mi,.slice pe es.length ke] 24)).alloc (.cells #[.string name] 9)).alloc (.cells #[.int .i64 0,.int .i64 0,.int .i64 0,.slice none 0 0] 165)) (w.heap.size+1+1) 165 #[.int .i64 0,.int .i64 0,.int .i64 0,.slice none 0 0]):=by
   have:=Za.new ((w.alloc (.cells #[.int .i64 ma,.int .i64 mi,.slice pe es.length ke] 24)).alloc (.cells #[.string name] 9)) 165 #[.int .i64 0,.int .i64 0,.int .i64 0,.slice none 0 0]
   rw [World.size_alloc,World.size_alloc] at this;exact this
  have HB3:Hid (Below w.heap.size w (((w.alloc (.cells #[.int .i64 ma,.int .i64 mi,.slice pe es.length ke] 24)).alloc (.cells #[.string name] 9)).alloc (.cells #[.int .i64 0,.int .i64 0,.int .i64 0,.slice none 0 0] 165))):=(((Below.refl _ _).alloc (Nat.le_refl _) _).alloc (by simp) _).alloc (by simp;omega) _
  go_enter Tryz.func139,Tryz.ntmps139
  go_wp2_with fail;refine (HF.out _ _ (((Below.refl _ _).alloc (Nat.le_refl _) _).alloc (by simp) _ |>.alloc (by simp;omega) _) (by simp) HN.out).mono ?_;rintro e w4 ⟨rfl,b4⟩;have C4:=HC3.out.below b4 (by simp);have B4:=HB3.out.trans (b4.mono HB3.out.size);have hz4:=C4.lt;have t0:=C4.cell 0;have t1:=C4.cell 1;have t2:=C4.cell 2;have t3:=C4.cell 3;have f0:=C4.frozen 0;have f1:=C4.frozen 1;have f2:=C4.frozen 2;have f3:=C4.frozen 3;simp at t0 t1 t2 t3;clear b4 HF HC3 HB3 HN;go_wp2
  (try simp only [Exit.inBlock,Exit.then])
  have hF:Za (((((w4.setCell ⟨w.heap.size+1+1,0,none⟩ (.int .i64 0)).setCell ⟨w.heap.size+1+1,1,none⟩ (.int .i64 0)).setCell ⟨w.heap.size+1+1,2,none⟩ (.int .i64 0)).setCell ⟨w.heap.size+1+1,3,none⟩ (.slice none 0 0)).alloc (.cells #[.string ⟨#[]⟩,.int .i64 0,.int .i64 0,.string ⟨#[]⟩,.slice none 0 0,.slice none 0 0,.slice none 0 0,.int .i64 0] 57)) (w.heap.size+1+1) 165 #[.int .i64 0,.int .i64 0,.int .i64 0,.slice none 0 0]:=Za.kept ((((C4.set 0 (.int .i64 0)).set 1 (.int .i64 0)).set 2 (.int .i64 0)).set 3 (.slice none 0 0)) (World.grownBy_alloc _ _ none) (by simp);refine bodyPost_ret (Zab rfl _ _ _ _ _ _ _ rfl hF Tryz.underlying165 rfl (by kernel_rfl)) rfl ?_;exact ⟨⟨_,rfl,rfl⟩,((((B4.setCell (by simp;omega) _).setCell (by simp;omega) _).setCell (by simp;omega) _).setCell (by simp;omega) _).alloc (by simp;omega) _⟩
 ·rw [h3]
  rw [h2] at HF;rw [← Zcs] at h1;have hx:=List.mem_of_find?_eq_some h2;obtain ⟨g0,g1⟩:=hfst x hx;have hE1:=(hat x hx).1;obtain ⟨⟨qe,je,e4,_⟩,⟨qi,ji,e5,_⟩,⟨qp,jp,e6,_⟩⟩:=hat x hx;obtain ⟨⟨N,xa,xi,T,xs,is,ps⟩,ve,vi,vp,fi⟩:=x;obtain ⟨ma,mi,es⟩:=K;dsimp only [optPlc,PV.val] at *;subst e4 e5 e6;clear hat h2 h3 hx;generalize is.length=li at *;generalize ps.length=lp at *;have HN:Hid ((((w.alloc (.cells #[.int .i64 ma,.int .i64 mi,.slice pe es.length ke] 24)).alloc (.cells #[.string name] 9)).alloc (.cells #[.int .i64 0,.int .i64 0,.int .i64 0,.slice none 0 0] 165)).cell? ⟨w.heap.size+1,0,none⟩=some (.string name)):=by
   have:=(Za.new (w.alloc (.cells #[.int .i64 ma,.int .i64 mi,.slice pe es.length ke] 24)) 9 #[.string name]).kept (World.grownBy_alloc _ (.cells #[.int .i64 0,.int .i64 0,.int .i64 0,.slice none 0 0] 165) none) (by simp)
   rw [World.size_alloc] at this;exact this.cell 0
  have HC3:Hid (Za (((w.alloc (.cells #[.int .i64 ma,.int .i64 mi,.slice pe es.length ke] 24)).alloc (.cells #[.string name] 9)).alloc (.cells #[.int .i64 0,.int .i64 0,.int .i64 0,.slice none 0 0] 165)) (w.heap.size+1+1) 165 #[.int .i64 0,.int .i64 0,.int .i64 0,.slice none 0 0]):=by
   have:=Za.new ((w.alloc (.cells #[.int .i64 ma,.int .i64 mi,.slice pe es.length ke] 24)).alloc (.cells #[.string name] 9)) 165 #[.int .i64 0,.int .i64 0,.int .i64 0,.slice none 0 0]
   rw [World.size_alloc,World.size_alloc] at this;exact this
  have HB3:Hid (Below w.heap.size w (((w.alloc (.cells #[.int .i64 ma,.int .i64 mi,.slice pe es.length ke] 24)).alloc (.cells #[.string name] 9)).alloc (.cells #[.int .i64 0,.int .i64 0,.int .i64 0,.slice none 0 0] 165))):=(((Below.refl _ _).alloc (Nat.le_refl _) _).alloc (by simp) _).alloc (by simp;omega) _
  go_enter Tryz.func139,Tryz.ntmps139
  go_wp2_with fail;refine (HF.out _ _ (((Below.refl _ _).alloc (Nat.le_refl _) _).alloc (by simp) _ |>.alloc (by simp;omega) _) (by simp) HN.out).mono ?_;rintro e w4 ⟨rfl,b4⟩;have C4:=HC3.out.below b4 (by simp);have B4:=HB3.out.trans (b4.mono HB3.out.size);have hz4:=C4.lt;have t0:=C4.cell 0;have t1:=C4.cell 1;have t2:=C4.cell 2;have t3:=C4.cell 3;have f0:=C4.frozen 0;have f1:=C4.frozen 1;have f2:=C4.frozen 2;have f3:=C4.frozen 3;simp at t0 t1 t2 t3;clear b4 HF HC3 HB3 HN t0 t1 t2 t3 f0 f1 f2 f3;go_wp2_with fail;refine wp_region_noPanic ?_;refine Zba (S:=fun w'=>w'.cell? ⟨w4.heap.size,1,none⟩=some (.int .i64 xa)∧w'.cell? ⟨w4.heap.size,2,none⟩=some (.int .i64 xi)∧w'.cell? ⟨w4.heap.size,7,none⟩=some (.int .i64 fi)∧w'.cell? ⟨w4.heap.size,4,none⟩=some (.slice qe xs.length je)) (x:=14) (by kernel_rfl) ?_;have C5':Za (w4.alloc (.cells #[.string N,.int .i64 xa,.int .i64 xi,.string T,.slice qe xs.length je,.slice qi li ji,.slice qp lp jp,.int .i64 fi] 57)) (w.heap.size+1+1) 165 #[.int .i64 0,.int .i64 0,.int .i64 0,.slice none 0 0]:=C4.kept (World.grownBy_alloc w4 (.cells #[.string N,.int .i64 xa,.int .i64 xi,.string T,.slice qe xs.length je,.slice qi li ji,.slice qp lp jp,.int .i64 fi] 57) none) (by simp);have C5:Za (w4.alloc (.cells #[.string N,.int .i64 xa,.int .i64 xi,.string T,.slice qe xs.length je,.slice qi li ji,.slice qp lp jp,.int .i64 fi] 57)).drew (w.heap.size+1+1) 165 #[.int .i64 0,.int .i64 0,.int .i64 0,.slice none 0 0]:=C5';clear C5';have P5:Za (w4.alloc (.cells #[.string N,.int .i64 xa,.int .i64 xi,.string T,.slice qe xs.length je,.slice qi li ji,.slice qp lp jp,.int .i64 fi] 57)).drew w4.heap.size 57 #[.string N,.int .i64 xa,.int .i64 xi,.string T,.slice qe xs.length je,.slice qi li ji,.slice qp lp jp,.int .i64 fi]:=Za.new w4 57 #[.string N,.int .i64 xa,.int .i64 xi,.string T,.slice qe xs.length je,.slice qi li ji,.slice qp lp jp,.int .i64 fi];have B5:Below w.heap.size w (w4.alloc (.cells #[.string N,.int .i64 xa,.int .i64 xi,.string T,.slice qe xs.length je,.slice qi li ji,.slice qp lp jp,.int .i64 fi] 57)).drew:=(B4.alloc B4.size _).drew;have s5:w4.heap.size<(w4.alloc (.cells #[.string N,.int .i64 xa,.int .i64 xi,.string T,.slice qe xs.length je,.slice qi li ji,.slice qp lp jp,.int .i64 fi] 57)).drew.heap.size:=P5.lt;generalize (w4.alloc (.cells #[.string N,.int .i64 xa,.int .i64 xi,.string T,.slice qe xs.length je,.slice qi li ji,.slice qp lp jp,.int .i64 fi] 57)).drew=w5 at C5 P5 B5 s5 ⊢;have hS0:w5.cell? ⟨w4.heap.size,1,none⟩=some (.int .i64 xa)∧w5.cell? ⟨w4.heap.size,2,none⟩=some (.int .i64 xi)∧w5.cell? ⟨w4.heap.size,7,none⟩=some (.int .i64 fi)∧w5.cell? ⟨w4.heap.size,4,none⟩=some (.slice qe xs.length je):=⟨P5.cell 1,P5.cell 2,P5.cell 7,P5.cell 4⟩;refine Zaa 0 28 (.pointer (some ⟨w4.heap.size,0,none⟩)) rfl (by kernel_rfl) (fun _ _ _ h=>h) hS0 rfl rfl (fun w' hSw=>by (try dsimp only at hSw);go_simp) ?_;simp only [List.setIfInBounds_toArray,List.set_cons_zero,List.set_cons_succ];refine Zaa 1 29 (.pointer (some ⟨w4.heap.size,1,none⟩)) rfl (by kernel_rfl) (fun _ _ _ h=>h) hS0 rfl rfl (fun w' hSw=>by (try dsimp only at hSw);go_simp) ?_;simp only [List.setIfInBounds_toArray,List.set_cons_zero,List.set_cons_succ];refine Zaa 2 30 (.int .i64 xa) rfl (by kernel_rfl) (fun _ _ _ h=>h) hS0 rfl rfl (fun w' hSw=>by (try dsimp only at hSw);go_simp) ?_;simp only [List.setIfInBounds_toArray,List.set_cons_zero,List.set_cons_succ];refine Zaa 3 31 (.pointer (some ⟨w4.heap.size,0,none⟩)) rfl (by kernel_rfl) (fun _ _ _ h=>h) hS0 rfl rfl (fun w' hSw=>by (try dsimp only at hSw);go_simp) ?_;simp only [List.setIfInBounds_toArray,List.set_cons_zero,List.set_cons_succ];refine Zaa 4 32 (.pointer (some ⟨w4.heap.size,2,none⟩)) rfl (by kernel_rfl) (fun _ _ _ h=>h) hS0 rfl rfl (fun w' hSw=>by (try dsimp only at hSw);go_simp) ?_;simp only [List.setIfInBounds_toArray,List.set_cons_zero,List.set_cons_succ];refine Zaa 5 33 (.int .i64 xi) rfl (by kernel_rfl) (fun _ _ _ h=>h) hS0 rfl rfl (fun w' hSw=>by (try dsimp only at hSw);go_simp) ?_;simp only [List.setIfInBounds_toArray,List.set_cons_zero,List.set_cons_succ];refine Zaa 6 34 (.pointer (some ⟨w4.heap.size,7,none⟩)) rfl (by kernel_rfl) (fun _ _ _ h=>h) hS0 rfl rfl (fun w' hSw=>by (try dsimp only at hSw);go_simp) ?_;simp only [List.setIfInBounds_toArray,List.set_cons_zero,List.set_cons_succ];refine Zaa 7 35 (.int .i64 fi) rfl (by kernel_rfl) (fun _ _ _ h=>h) hS0 rfl rfl (fun w' hSw=>by (try dsimp only at hSw);go_simp) ?_;simp only [List.setIfInBounds_toArray,List.set_cons_zero,List.set_cons_succ];refine Zaa 9 37 (.pointer (some ⟨w4.heap.size,0,none⟩)) rfl (by kernel_rfl) (fun _ _ _ h=>h) hS0 rfl rfl (fun w' hSw=>by (try dsimp only at hSw);go_simp) ?_;simp only [List.setIfInBounds_toArray,List.set_cons_zero,List.set_cons_succ];refine Zaa 10 38 (.pointer (some ⟨w4.heap.size,4,none⟩)) rfl (by kernel_rfl) (fun _ _ _ h=>h) hS0 rfl rfl (fun w' hSw=>by (try dsimp only at hSw);go_simp) ?_;simp only [List.setIfInBounds_toArray,List.set_cons_zero,List.set_cons_succ];refine Zaa 11 39 (.slice qe xs.length je) rfl (by kernel_rfl) (fun _ _ _ h=>h) hS0 rfl rfl (fun w' hSw=>by (try dsimp only at hSw);go_simp) ?_;simp only [List.setIfInBounds_toArray,List.set_cons_zero,List.set_cons_succ];refine Zam (i:=8) rfl (by kernel_rfl) (fun K hK=>?_);go_simp;refine (addr_any fi w5 g0 g1).mono ?_;rintro e w6 ⟨rfl,rfl⟩;go_simp;refine hK.out _ _ hS0 (fun _=>?_);clear hK K;refine Zaa 12 40 (.agg #[.int .i64 xa,.int .i64 xi,.int .i64 (4096+fi*64),.slice qe xs.length je]) rfl (by kernel_rfl) (fun _ _ _ h=>h) hS0 rfl rfl (fun w' hSw=>by (try dsimp only at hSw);go_simp) ?_;simp only [List.setIfInBounds_toArray,List.set_cons_zero,List.set_cons_succ];have t0:=C5.cell 0;have t1:=C5.cell 1;have t2:=C5.cell 2;have t3:=C5.cell 3;have f0:=C5.frozen 0;have f1:=C5.frozen 1;have f2:=C5.frozen 2;have f3:=C5.frozen 3;simp at t0 t1 t2 t3;refine Zam (i:=13) rfl (by kernel_rfl) (fun K hK=>?_);go_simp;have hne:some w4.heap.size≠some (w.heap.size+1+1):=fun e=>by
   injection e with e
   omega
  have P6:=(((P5.kept (Zai w6 (w.heap.size+1+1) 0 (.int .i64 xa)) hne).kept (Zai _ (w.heap.size+1+1) 1 (.int .i64 xi)) hne).kept (Zai _ (w.heap.size+1+1) 2 (.int .i64 (4096+fi*64))) hne).kept (Zai _ (w.heap.size+1+1) 3 (.slice qe xs.length je)) hne;have C6:=(((C5.set 0 (.int .i64 xa)).set 1 (.int .i64 xi)).set 2 (.int .i64 (4096+fi*64))).set 3 (.slice qe xs.length je);have B6:Below w.heap.size w ((((w6.setCell ⟨w.heap.size+1+1,0,none⟩ (.int .i64 xa)).setCell ⟨w.heap.size+1+1,1,none⟩ (.int .i64 xi)).setCell ⟨w.heap.size+1+1,2,none⟩ (.int .i64 (4096+fi*64))).setCell ⟨w.heap.size+1+1,3,none⟩ (.slice qe xs.length je)):=(((B5.setCell (by simp;omega) _).setCell (by simp;omega) _).setCell (by simp;omega) _).setCell (by simp;omega) _;refine hK.out _ _ ⟨P6.cell 1,P6.cell 2,P6.cell 7,P6.cell 4⟩ (fun _=>?_);clear hK K hS0 t0 t1 t2 t3 f0 f1 f2 f3;generalize (((w6.setCell ⟨w.heap.size+1+1,0,none⟩ (.int .i64 xa)).setCell ⟨w.heap.size+1+1,1,none⟩ (.int .i64 xi)).setCell ⟨w.heap.size+1+1,2,none⟩ (.int .i64 (4096+fi*64))).setCell ⟨w.heap.size+1+1,3,none⟩ (.slice qe xs.length je)=w7 at C6 B6 ⊢;refine Zbo (x:=14) rfl (by kernel_rfl) (by kernel_rfl) (fun K hK=>?_);go_simp;refine hK.out _ _ ?_;refine NoPanic.normal ?_;clear hK K;go_wp2
  (try simp only [Exit.inBlock,Exit.then])
  have hF:Za w7 (w.heap.size+1+1) 165 #[.int .i64 xa,.int .i64 xi,.int .i64 (4096+fi*64),.slice qe xs.length je]:=C6;refine bodyPost_ret (Zab rfl _ _ _ _ _ _ _ rfl hF Tryz.underlying165 rfl (by kernel_rfl)) rfl ?_;exact ⟨⟨_,rfl,_,rfl,hE1⟩,B6⟩
theorem addrOf_cases (K:Ker) (l:List Plc) (i:Imp):(tgtOf K l i.mod=none∧addrOf K l i=(0,5))∨∃ t,tgtOf K l i.mod=some t∧((t.major≠i.major∧addrOf K l i=(0,4))∨(t.major=i.major∧t.minor<i.minor∧addrOf K l i=(0,4))∨
  (t.major=i.major∧i.minor≤t.minor∧(expOf t.exps i.name=none∧addrOf K l i=(0,5)∨∃ x,expOf t.exps i.name=some x∧addrOf K l i=(t.beg+x.pos,0)))):=by
 unfold addrOf
 cases ht:tgtOf K l i.mod with
 | none=>exact .inl ⟨rfl,rfl⟩
 | some t=>
  refine .inr ⟨t,rfl,?_⟩;dsimp only
  by_cases h1:t.major=i.major
  ·by_cases h2:t.minor<i.minor
   ·exact .inr (.inl ⟨h1,h2,by rw [if_pos (.inr h2)]⟩)
   ·refine .inr (.inr ⟨h1,by omega,?_⟩)
    rw [if_neg (by omega)]
    cases hx:expOf t.exps i.name with
    | none=>exact .inl ⟨rfl,rfl⟩
    | some x=>exact .inr ⟨x,rfl,rfl⟩
  ·exact .inl ⟨h1,by rw [if_pos (.inl h1)]⟩
theorem address_any (K:Ker) (vk:Value) (l:List PV) (v:Value) (i:Imp) (w:World) (hK:Zcd w.heap.size w vk K) (hrow:Zax w.heap.size w v l) (h0:ZaQ K (l.map PV.plc)=0) :
  Calls Tryz.prog 87 #[vk,v,.agg #[.string i.mod,.string i.name,.int .i64 i.major,.int .i64 i.minor]] w fun e w'=>e=.returned (.tuple #[.int .i64 (addrOf K (l.map PV.plc) i).1,.int .i64 (addrOf K (l.map PV.plc) i).2])∧Below w.heap.size w w':=by
 have hfst:∀ x∈l,0≤x.first∧x.first≤15:=fun x hx=>by
  have:=(chkFind_zero h0).2.2 x.plc (List.mem_map_of_mem hx)
  exact ⟨this.2.1,this.2.2⟩
 have HM:Hid (∀ W,Below w.heap.size w W→Calls Tryz.prog 139 #[vk,v,.string i.mod] W fun e w'=>(∃ r,e=.returned r∧TgtV W.heap.size W r (tgtOf K (l.map PV.plc) i.mod))∧Below W.heap.size W w'):=
  fun W hb=>meant_any K vk l v i.mod W ((hK.below hb).more hb.size) ((hrow.below hb).more hb.size) hfst
 obtain ⟨vke,rfl,hE⟩:=hK;obtain ⟨pe,ke,rfl,_,_⟩:=hE;obtain ⟨⟨a,cap,rfl,_,_⟩,_⟩:=hrow;have key:=addrOf_cases K (l.map PV.plc) i;have hbd:=fun t (ht:tgtOf K (l.map PV.plc) i.mod=some t)=>tgt_bd h0 ht;generalize addrOf K (l.map PV.plc) i=R at *;generalize tgtOf K (l.map PV.plc) i.mod=TT at *;obtain ⟨ma,mi,es⟩:=K;obtain ⟨im,inm,ia,ib⟩:=i;dsimp only at *;clear h0 hfst;generalize es.length=le at *;generalize l.length=ll at *;have HW2:Hid (Below w.heap.size w ((w.alloc (.cells #[.int .i64 ma,.int .i64 mi,.slice pe le ke] 24)).alloc (.cells #[.string im,.string inm,.int .i64 ia,.int .i64 ib] 106))):=((Below.refl _ _).alloc (Nat.le_refl _) _).alloc (by simp) _;have HC2:Hid (Za ((w.alloc (.cells #[.int .i64 ma,.int .i64 mi,.slice pe le ke] 24)).alloc (.cells #[.string im,.string inm,.int .i64 ia,.int .i64 ib] 106)) (w.heap.size+1) 106 #[.string im,.string inm,.int .i64 ia,.int .i64 ib]):=by
  have:=Za.new (w.alloc (.cells #[.int .i64 ma,.int .i64 mi,.slice pe le ke] 24)) 106 #[.string im,.string inm,.int .i64 ia,.int .i64 ib]
  rw [World.size_alloc] at this;exact this
 go_enter Tryz.func87,Tryz.ntmps87
 go_wp2_with fail;refine (HM.out _ HW2.out).mono ?_;rintro e w3 ⟨⟨r,rfl,hT⟩,b3⟩;have C3:=HC2.out.below b3 (by simp);have B3:=HW2.out.trans (b3.mono HW2.out.size);have hz3:=C3.lt
 rcases key with ⟨rfl,rfl⟩ | ⟨t,rfl,key⟩
 ·have hT':r=.tuple #[.agg #[.int .i64 0,.int .i64 0,.int .i64 0,.slice none 0 0],.bool false]:=hT
  subst hT';clear HM HW2 HC2 hT b3 hbd;go_wp2;go_ret2;exact ⟨rfl,B3.alloc B3.size _⟩
 ·obtain ⟨vt,hr,hR⟩:∃ ve,r=.tuple #[.agg #[.int .i64 t.major,.int .i64 t.minor,.int .i64 t.beg,ve],.bool true]∧Zal 2 Exp.cell _ _ ve t.exps:=hT
  subst hr;obtain ⟨q1,q2,q3,q4⟩:=hbd t rfl;have hR3:=(hR.below b3).more b3.size;obtain ⟨pt,kt,rfl,_,_⟩:=hR;clear HM HW2 HC2 b3 hbd;obtain ⟨ta,ti,tb,ts⟩:=t;dsimp only at *;have hW4:Below w3.heap.size w3 (w3.alloc (.cells #[.int .i64 ta,.int .i64 ti,.int .i64 tb,.slice pt ts.length kt] 165)):=(Below.refl _ _).alloc (Nat.le_refl _) _;have hR4:=(hR3.below hW4).more hW4.size;have C4:=C3.below hW4 C3.lt;have T4:=Za.new w3 165 #[.int .i64 ta,.int .i64 ti,.int .i64 tb,.slice pt ts.length kt];have B4:=B3.trans (hW4.mono B3.size);have HF:Hid (Calls Tryz.prog 140 #[.slice pt ts.length kt,.func (.func 141) #[] #[.pointer (some ⟨w.heap.size+1,0,none⟩)]] (w3.alloc (.cells #[.int .i64 ta,.int .i64 ti,.int .i64 tb,.slice pt ts.length kt] 165)) fun e w'=>e=.returned (optExp (expOf ts inm))∧Below (w3.alloc (.cells #[.int .i64 ta,.int .i64 ti,.int .i64 tb,.slice pt ts.length kt] 165)).heap.size (w3.alloc (.cells #[.int .i64 ta,.int .i64 ti,.int .i64 tb,.slice pt ts.length kt] 165)) w'):=
   firstExp_any ts _ 141 (.pointer (some ⟨w.heap.size+1,0,none⟩)) (fun w x=>enters_of Tryz.func141 (by kernel_rfl) rfl _ w) _ _ hR4 (fun x _ W' hb'=>isCalled_any (w.heap.size+1) inm x W' (Nat.lt_of_lt_of_le C4.lt hb'.size) ((hb'.cell (p:=⟨w.heap.size+1,1,none⟩) C4.lt).trans (C4.cell 1)))
  have HC4:Hid (Za (w3.alloc (.cells #[.int .i64 ta,.int .i64 ti,.int .i64 tb,.slice pt ts.length kt] 165)) (w.heap.size+1) 106 #[.string im,.string inm,.int .i64 ia,.int .i64 ib]):=C4;have HT4:Hid (Za (w3.alloc (.cells #[.int .i64 ta,.int .i64 ti,.int .i64 tb,.slice pt ts.length kt] 165)) w3.heap.size 165 #[.int .i64 ta,.int .i64 ti,.int .i64 tb,.slice pt ts.length kt]):=T4;have HB4:Hid (Below w.heap.size w (w3.alloc (.cells #[.int .i64 ta,.int .i64 ti,.int .i64 tb,.slice pt ts.length kt] 165))):=B4;have c2:=C3.cell 2;have c3:=C3.cell 3;simp at c2 c3;clear C4 T4 B4 hR3 hR4 hW4;generalize hn:ts.length=lt at *
  rcases key with ⟨h1,rfl⟩ | ⟨rfl,h2,rfl⟩ | ⟨rfl,h2,⟨h3,rfl⟩ | ⟨x,h3,rfl⟩⟩
  ·have h1':(ta != ia)=true:=by simpa using h1
   go_wp2;go_ret2;exact ⟨rfl,HB4.out⟩
  ·go_wp2
   go_ret2;exact ⟨rfl,HB4.out⟩
  ·rw [h3] at HF
   dsimp only [optExp] at HF;go_wp2_with fail;refine HF.out.mono ?_;rintro e w5 ⟨rfl,b5⟩;have B5:=HB4.out.trans (b5.mono HB4.out.size);go_wp2;go_ret2;exact ⟨rfl,B5.alloc B5.size _⟩
  ·rw [h3] at HF
   dsimp only [optExp] at HF;obtain ⟨g1,g2,g3⟩:=q4 x (List.mem_of_find?_eq_some h3);clear q4 h3;go_wp2_with fail;refine HF.out.mono ?_;rintro e w5 ⟨rfl,b5⟩;have B5:=HB4.out.trans (b5.mono HB4.out.size);have T5:=HT4.out.below b5 (by simp);have t2:=T5.cell 2;have hz5:=T5.lt;simp at t2;clear b5 HF HT4 HC4 HB4;go_wp2;go_ret2;exact ⟨rfl,B5.alloc B5.size _⟩
def findRes (k:Ker) (l:List Plc) (i:Imp):Int × Int:=if ZaQ k l≠0 then (0,ZaQ k l) else if Zbv i≠0 then (0,Zbv i) else addrOf k l i
theorem chkImps_one (i:Imp):chkImps [] [i]=Zbv i:=by
 have h:chkImps [] [i]=if Zcl [] i=0 then 0 else Zcl [] i:=rfl;have h2:Zcl [] i=Zbv i:=by
  rw [impErr_own]
  by_cases h1:Zbv i=1
  ·rw [if_pos h1,h1]
  ·rw [if_neg h1,if_neg (by simp)]
 rw [h,h2]
 by_cases h3:Zbv i=0
 ·rw [if_pos h3,h3]
 ·rw [if_neg h3]
theorem findRes_cases (k:Ker) (l:List Plc) (i:Imp):(ZaQ k l≠0∧findRes k l i=(0,ZaQ k l))∨(ZaQ k l=0∧Zbv i≠0∧findRes k l i=(0,Zbv i))∨(ZaQ k l=0∧Zbv i=0∧findRes k l i=addrOf k l i):=by
 unfold findRes
 by_cases h1:ZaQ k l=0
 ·by_cases h2:Zbv i=0
  ·exact .inr (.inr ⟨h1,h2,by rw [if_neg (by omega),if_neg (by omega)]⟩)
  ·exact .inr (.inl ⟨h1,h2,by rw [if_neg (by omega),if_pos h2]⟩)
 ·exact .inl ⟨h1,by rw [if_pos h1]⟩
theorem find_any (K:Ker) (vk:Value) (l:List PV) (v:Value) (i:Imp) (w:World) (hK:Zcd w.heap.size w vk K) (hf:K.fits) (hrow:Zax w.heap.size w v l) (hfit:∀ x∈l,x.mod.fits) (hi:i.fits) :
  Calls Tryz.prog 70 #[vk,v,.agg #[.string i.mod,.string i.name,.int .i64 i.major,.int .i64 i.minor]] w fun e w'=>e=.returned (.tuple #[.int .i64 (findRes K (l.map PV.plc) i).1,.int .i64 (findRes K (l.map PV.plc) i).2])∧Below w.heap.size w w':=by
 have HP:Hid (∀ W,Below w.heap.size w W→Calls Tryz.prog 86 #[vk,v] W fun e w'=>e=.returned (.int .i64 (ZaQ K (l.map PV.plc)))∧Below W.heap.size W w'):=
  fun W hb=>wrongPlaces_any K vk l v W ((hK.below hb).more hb.size) hf ((hrow.below hb).more hb.size) hfit
 have HA:Hid (ZaQ K (l.map PV.plc)=0→∀ W,Below w.heap.size w W→Calls Tryz.prog 87 #[vk,v,.agg #[.string i.mod,.string i.name,.int .i64 i.major,.int .i64 i.minor]] W fun e w'=>e=.returned (.tuple #[.int .i64 (addrOf K (l.map PV.plc) i).1,.int .i64 (addrOf K (l.map PV.plc) i).2])∧Below W.heap.size W w'):=
  fun h0 W hb=>address_any K vk l v i W ((hK.below hb).more hb.size) ((hrow.below hb).more hb.size) h0
 have HI:Hid (∀ W B,Za W B 106 #[.string i.mod,.string i.name,.int .i64 i.major,.int .i64 i.minor]→Calls Tryz.prog 119 #[.slice (some ⟨B,0,none⟩) 1 1] W fun e w'=>e=.returned (.int .i64 (Zbv i))∧Below W.heap.size W w'):=by
  intro W B hc;have hr:Zal 4 Imp.cell W.heap.size W (.slice (some ⟨B,0,none⟩) 1 1) [i]:=ZbQ (C:=impC) (cells:=Imp.cell) (sz:=4) (fun _=>rfl) impC_at hc [i] (by simp) 1 (by simp [impC])
  have:=wrongImports_any [i] _ W hr (fun e he=>by
   have e':e=i:=by simpa using he
   subst e';exact hi) (by simp)
  rwa [chkImps_one] at this
 obtain ⟨vke,rfl,hE⟩:=hK;obtain ⟨pe,ke,rfl,_,_⟩:=hE;obtain ⟨⟨a,cap,rfl,_,_⟩,_⟩:=hrow;have key:=findRes_cases K (l.map PV.plc) i;generalize findRes K (l.map PV.plc) i=R at *;generalize addrOf K (l.map PV.plc) i=A at *;generalize ZaQ K (l.map PV.plc)=cf at *;generalize Zbv i=io at *;obtain ⟨ma,mi,es⟩:=K;obtain ⟨im,inm,ia,ib⟩:=i;dsimp only at *;clear hf hfit hi;generalize es.length=le at *;generalize l.length=ll at *;have HW2:Hid (Below w.heap.size w ((w.alloc (.cells #[.int .i64 ma,.int .i64 mi,.slice pe le ke] 24)).alloc (.cells #[.string im,.string inm,.int .i64 ia,.int .i64 ib] 106))):=((Below.refl _ _).alloc (Nat.le_refl _) _).alloc (by simp) _;have HK2:Hid (Za ((w.alloc (.cells #[.int .i64 ma,.int .i64 mi,.slice pe le ke] 24)).alloc (.cells #[.string im,.string inm,.int .i64 ia,.int .i64 ib] 106)) w.heap.size 24 #[.int .i64 ma,.int .i64 mi,.slice pe le ke]):=(Za.new w 24 #[.int .i64 ma,.int .i64 mi,.slice pe le ke]).kept (World.grownBy_alloc _ _ none) (by simp);have HC2:Hid (Za ((w.alloc (.cells #[.int .i64 ma,.int .i64 mi,.slice pe le ke] 24)).alloc (.cells #[.string im,.string inm,.int .i64 ia,.int .i64 ib] 106)) (w.heap.size+1) 106 #[.string im,.string inm,.int .i64 ia,.int .i64 ib]):=by
  have:=Za.new (w.alloc (.cells #[.int .i64 ma,.int .i64 mi,.slice pe le ke] 24)) 106 #[.string im,.string inm,.int .i64 ia,.int .i64 ib]
  rw [World.size_alloc] at this;exact this
 go_enter Tryz.func70,Tryz.ntmps70
 go_wp2_with fail;refine (HP.out _ HW2.out).mono ?_;rintro e w3 ⟨rfl,b3⟩;have C3:=HC2.out.below b3 (by simp);have K3:=HK2.out.below b3 (by simp;omega);have B3:=HW2.out.trans (b3.mono HW2.out.size);clear HC2 HK2 HW2 HP b3
 rcases key with ⟨h1,rfl⟩ | ⟨rfl,h2,rfl⟩ | ⟨rfl,rfl,rfl⟩
 ·have h1':(cf != 0)=true:=by simpa using h1
  clear h1;go_wp2;go_ret2;exact ⟨rfl,B3⟩
 all_goals
  have c0:=C3.cell 0;have c1:=C3.cell 1;have c2:=C3.cell 2;have c3:=C3.cell 3;simp at c0 c1 c2 c3;have C4:=Za.new w3 106 #[.string im,.string inm,.int .i64 ia,.int .i64 ib];have K4:=K3.kept (World.grownBy_alloc w3 (.cells #[.string im,.string inm,.int .i64 ia,.int .i64 ib] 106) none) (by simp);have D4:=C3.kept (World.grownBy_alloc w3 (.cells #[.string im,.string inm,.int .i64 ia,.int .i64 ib] 106) none) (by simp);have B4:=B3.alloc B3.size (.cells #[.string im,.string inm,.int .i64 ia,.int .i64 ib] 106);have HC4:Hid (Za (w3.alloc (.cells #[.string im,.string inm,.int .i64 ia,.int .i64 ib] 106)) w3.heap.size 106 #[.string im,.string inm,.int .i64 ia,.int .i64 ib]):=C4;have HD4:Hid (Za (w3.alloc (.cells #[.string im,.string inm,.int .i64 ia,.int .i64 ib] 106)) (w.heap.size+1) 106 #[.string im,.string inm,.int .i64 ia,.int .i64 ib]):=D4;have HK4:Hid (Za (w3.alloc (.cells #[.string im,.string inm,.int .i64 ia,.int .i64 ib] 106)) w.heap.size 24 #[.int .i64 ma,.int .i64 mi,.slice pe le ke]):=K4;have HB4:Hid (Below w.heap.size w (w3.alloc (.cells #[.string im,.string inm,.int .i64 ia,.int .i64 ib] 106))):=B4;clear C4 K4 D4 B4;go_wp2_with fail;refine (HI.out _ _ HC4.out).mono ?_;rintro e w5 ⟨rfl,b5⟩;have D5:=HD4.out.below b5 HD4.out.lt;have K5:=HK4.out.below b5 HK4.out.lt;have B5:=HB4.out.trans (b5.mono HB4.out.size);clear b5 HC4 HD4 HK4 HB4 HI c0 c1 c2 c3
 ·have h2':(io != 0)=true:=by simpa using h2
  clear h2;go_wp2;go_ret2;exact ⟨rfl,B5⟩
 ·have c0:=D5.cell 0
  have c1:=D5.cell 1;have c2:=D5.cell 2;have c3:=D5.cell 3;have d0:=K5.cell 0;have d1:=K5.cell 1;have d2:=K5.cell 2;simp at c0 c1 c2 c3 d0 d1 d2;go_wp2_with fail;refine (HA.out (by first | rfl | trivial) _ B5).mono ?_;rintro e w6 ⟨rfl,b6⟩;go_wp2;go_ret2;exact ⟨rfl,B5.trans (b6.mono B5.size)⟩
def ZaF (k:Ker) (l:List Plc):List Int→List Imp→List Int × Int
 | acc,[]=>(acc,0)
 | acc,i::r=>if (addrOf k l i).2≠0 then ([],(addrOf k l i).2) else ZaF k l (acc++[(addrOf k l i).1]) r
def ZaK (k:Ker) (l:List Plc) (m:Mod):List Int × Int:=if ZaQ k l≠0 then ([],ZaQ k l) else if Zac m≠0 then ([],Zac m) else ZaF k l [] m.imps
theorem allRes_cases (k:Ker) (l:List Plc) (m:Mod):(ZaQ k l≠0∧ZaK k l m=([],ZaQ k l))∨(ZaQ k l=0∧Zac m≠0∧ZaK k l m=([],Zac m))∨(ZaQ k l=0∧Zac m=0∧ZaK k l m=ZaF k l [] m.imps):=by
 unfold ZaK
 by_cases h1:ZaQ k l=0
 ·by_cases h2:Zac m=0
  ·exact .inr (.inr ⟨h1,h2,by rw [if_neg (by omega),if_neg (by omega)]⟩)
  ·exact .inr (.inl ⟨h1,h2,by rw [if_neg (by omega),if_pos h2]⟩)
 ·exact .inl ⟨h1,by rw [if_pos h1]⟩
theorem all_own (K:Ker) (vk:Value) (l:List PV) (v:Value) (M:Mod) (vm:Value) (w:World) (hK:Zcd w.heap.size w vk K) (hf:K.fits) (hrow:Zax w.heap.size w v l) (hfit:∀ x∈l,x.mod.fits) (hM:Zbf w.heap.size w vm M) (hMf:M.fits) :
  Calls Tryz.prog 32 #[vk,v,vm] w fun e w'=>(∃ r,e=.returned (.tuple #[r,.int .i64 (ZaK K (l.map PV.plc) M).2])∧Zal 1 ZbF w'.heap.size w' r (ZaK K (l.map PV.plc) M).1∧w'.ownsRow w.heap.size 3 1 r (ZaK K (l.map PV.plc) M).1.length ((ZaK K (l.map PV.plc) M).1.flatMap intC))∧Below w.heap.size w w':=by
 have HP:Hid (∀ W,Below w.heap.size w W→Calls Tryz.prog 86 #[vk,v] W fun e w'=>e=.returned (.int .i64 (ZaQ K (l.map PV.plc)))∧Below W.heap.size W w'):=
  fun W hb=>wrongPlaces_any K vk l v W ((hK.below hb).more hb.size) hf ((hrow.below hb).more hb.size) hfit
 have HA:Hid (ZaQ K (l.map PV.plc)=0→∀ (i:Imp) W,Below w.heap.size w W→Calls Tryz.prog 87 #[vk,v,.agg #[.string i.mod,.string i.name,.int .i64 i.major,.int .i64 i.minor]] W fun e w'=>e=.returned (.tuple #[.int .i64 (addrOf K (l.map PV.plc) i).1,.int .i64 (addrOf K (l.map PV.plc) i).2])∧Below W.heap.size W w'):=
  fun h0 i W hb=>address_any K vk l v i W ((hK.below hb).more hb.size) ((hrow.below hb).more hb.size) h0
 have HC:Hid (∀ W,Below w.heap.size w W→Calls Tryz.prog 64 #[vm] W fun e w'=>e=.returned (.int .i64 (Zac M))∧Below W.heap.size W w'):=
  fun W hb=>check_any M vm W ((hM.below hb).more hb.size) hMf
 obtain ⟨vke,rfl,hE⟩:=hK;obtain ⟨pe,ke,rfl,_,_⟩:=hE;obtain ⟨⟨a,cap,rfl,_,_⟩,_⟩:=hrow;obtain ⟨me,mi',mp,rfl,hme,hmi,hmp⟩:=hM;obtain ⟨qe,je,rfl,_,_⟩:=hme;obtain ⟨qi,ji,rfl,_,hrowI⟩:=hmi;obtain ⟨qp,jp,rfl,_,_⟩:=hmp;have key:=allRes_cases K (l.map PV.plc) M;have hm6:Zac M=0→M.imps.length≤6:=fun h=>(Zbl h).2.2.2.1;generalize hL:l.map PV.plc=L at *;generalize ZaK K L M=R at *;generalize ZaQ K L=cf at *;generalize Zac M=cm at *;have HAD:Hid (∀ acc x r,ZaF K L acc (x::r)=if (addrOf K L x).2≠0 then ([],(addrOf K L x).2) else ZaF K L (acc++[(addrOf K L x).1]) r):=fun _ _ _=>rfl;have HAN:Hid (∀ acc,ZaF K L acc []=(acc,0)):=fun _=>rfl;generalize ZaF K L=AF at *;generalize addrOf K L=AO at *;obtain ⟨ma,mi,es⟩:=K;obtain ⟨N,xa,xi,T,xs,is,ps⟩:=M;dsimp only at *;clear hf hfit hMf hL L;generalize es.length=le at *;generalize xs.length=lx at *;generalize ps.length=lp at *;generalize l.length=ll at *;have HW2:Hid (Below w.heap.size w ((w.alloc (.cells #[.int .i64 ma,.int .i64 mi,.slice pe le ke] 24)).alloc (.cells #[.string N,.int .i64 xa,.int .i64 xi,.string T,.slice qe lx je,.slice qi is.length ji,.slice qp lp jp] 31))):=((Below.refl _ _).alloc (Nat.le_refl _) _).alloc (by simp) _;have HK2:Hid (Za ((w.alloc (.cells #[.int .i64 ma,.int .i64 mi,.slice pe le ke] 24)).alloc (.cells #[.string N,.int .i64 xa,.int .i64 xi,.string T,.slice qe lx je,.slice qi is.length ji,.slice qp lp jp] 31)) w.heap.size 24 #[.int .i64 ma,.int .i64 mi,.slice pe le ke]):=(Za.new w 24 #[.int .i64 ma,.int .i64 mi,.slice pe le ke]).kept (World.grownBy_alloc _ _ none) (by simp);have HC2:Hid (Za ((w.alloc (.cells #[.int .i64 ma,.int .i64 mi,.slice pe le ke] 24)).alloc (.cells #[.string N,.int .i64 xa,.int .i64 xi,.string T,.slice qe lx je,.slice qi is.length ji,.slice qp lp jp] 31)) (w.heap.size+1) 31 #[.string N,.int .i64 xa,.int .i64 xi,.string T,.slice qe lx je,.slice qi is.length ji,.slice qp lp jp]):=by
  have:=Za.new (w.alloc (.cells #[.int .i64 ma,.int .i64 mi,.slice pe le ke] 24)) 31 #[.string N,.int .i64 xa,.int .i64 xi,.string T,.slice qe lx je,.slice qi is.length ji,.slice qp lp jp]
  rw [World.size_alloc] at this;exact this
 go_enter Tryz.func32,Tryz.ntmps32
 go_wp2_with fail;refine (HP.out _ HW2.out).mono ?_;rintro e w3 ⟨rfl,b3⟩;have C3:=HC2.out.below b3 (by simp);have K3:=HK2.out.below b3 (by simp;omega);have B3:=HW2.out.trans (b3.mono HW2.out.size);clear HC2 HK2 HW2 HP b3
 rcases key with ⟨h1,rfl⟩ | ⟨rfl,h2,rfl⟩ | ⟨rfl,rfl,rfl⟩
 ·have h1':(cf != 0)=true:=by simpa using h1
  clear h1;go_wp2;go_ret2;exact ⟨⟨_,rfl,⟨none,0,rfl,by simp,.inl rfl⟩,World.ownsRow_nil _ _ _ _⟩,B3⟩
 all_goals
  have c0:=C3.cell 0;have c1:=C3.cell 1;have c2:=C3.cell 2;have c3:=C3.cell 3;have c4:=C3.cell 4;have c5:=C3.cell 5;have c6:=C3.cell 6;simp at c0 c1 c2 c3 c4 c5 c6;go_wp2_with fail;refine (HC.out _ B3).mono ?_;rintro e w5 ⟨rfl,b5⟩;have D5:=C3.below b5 C3.lt;have K5:=K3.below b5 K3.lt;have B5:=B3.trans (b5.mono B3.size);clear b5 HC c0 c1 c2 c3 c4 c5 c6 C3 K3
 ·have h2':(cm != 0)=true:=by simpa using h2
  clear h2;go_wp2;go_ret2;exact ⟨⟨_,rfl,⟨none,0,rfl,by simp,.inl rfl⟩,World.ownsRow_nil _ _ _ _⟩,B5⟩
 ·have hA:=fun (i:Imp) W hb=>HA.out (by first | rfl | trivial) i W hb
  have HA':Hid (∀ (i:Imp) W,Below w.heap.size w W→Calls Tryz.prog 87 #[.agg #[.int .i64 ma,.int .i64 mi,.slice pe le ke],.slice a ll cap,.agg #[.string i.mod,.string i.name,.int .i64 i.major,.int .i64 i.minor]] W fun e w'=>e=.returned (.tuple #[.int .i64 (AO i).1,.int .i64 (AO i).2])∧Below W.heap.size W w'):=hA;have h6:is.length≤6:=by first | exact hm6 rfl | exact hm6 trivial | exact hm6
  clear hA HA hm6;have d5:=D5.cell 5;simp at d5;obtain ⟨ii,hii,hz0,hz1,hz2⟩:=infoInt_parts;go_wp2_with fail
  go_loopw [10,29] (fun f i wr=>∃ (k:Nat) (acc:List Int),k≤is.length∧i=.int .i64 k∧acc.length=k∧wr.ownsRow w5.heap.size 3 1 f acc.length (acc.flatMap intC)∧Hid (AF [] is=AF acc (is.drop k))∧Below w5.heap.size w5 wr) (fun _ i _=>is.length-(intOf i).toNat)
  case atStart=>exact ⟨0,[],Nat.zero_le _,rfl,rfl,⟨rfl,.inl ⟨rfl,rfl⟩⟩,by show AF [] is=AF [] (is.drop 0);rfl,Below.refl _ _⟩
  case round=>
   obtain ⟨k,acc,hk,rfl,hacc,hown,HCC,B⟩:=hrel;have B':Below w.heap.size w wr:=B5.trans (B.mono B5.size);have HLK:Hid (acc.length=k):=hacc;rw [hacc] at hown;clear hacc;obtain ⟨av,kv,rfl⟩:=Zae hown
   by_cases hlt:k<is.length
   ·obtain ⟨x,hx⟩:∃ x,is[k]?=some x:=⟨_,List.getElem?_eq_getElem hlt⟩
    rcases hrowI with h | ⟨b,off,rfl,hbn,hcells⟩
    ·subst h;simp at hlt
    have c0:=(B'.cell (p:=⟨b,off+k*4+0,none⟩) hbn).trans (hcells k _ hx 0 (by omega));have c1:=(B'.cell (p:=⟨b,off+k*4+1,none⟩) hbn).trans (hcells k _ hx 1 (by omega));have c2:=(B'.cell (p:=⟨b,off+k*4+2,none⟩) hbn).trans (hcells k _ hx 2 (by omega));have c3:=(B'.cell (p:=⟨b,off+k*4+3,none⟩) hbn).trans (hcells k _ hx 3 (by omega));have HR:Hid (AF [] is=if (AO x).2≠0 then ([],(AO x).2) else AF (acc++[(AO x).1]) (is.drop (k+1))):=by
     show AF [] is=_
     rw [HCC.out,drop_at hx,HAD.out]
    have HAx:=HA'.out x;obtain ⟨xm,xn,xma,xmi⟩:=x;dsimp only [Imp.cell] at c0 c1 c2 c3;dsimp only at HAx;rw [Nat.add_zero] at c0;generalize AO ⟨xm,xn,xma,xmi⟩=q at HR HAx;obtain ⟨p,q⟩:=q;dsimp only at HR HAx;have HAX:Hid (∀ W,Below w.heap.size w W→Calls Tryz.prog 87 #[.agg #[.int .i64 ma,.int .i64 mi,.slice pe le ke],.slice a ll cap,.agg #[.string xm,.string xn,.int .i64 xma,.int .i64 xmi]] W fun e w'=>e=.returned (.tuple #[.int .i64 p,.int .i64 q])∧Below W.heap.size W w'):=HAx;clear HCC hcells hx HAx HA' HAD HAN;have KB:=K5.below B K5.lt;have d0:=KB.cell 0;have d1:=KB.cell 1;have d2:=KB.cell 2;have zz:=KB.lt;simp at d0 d1 d2;have HB6:Hid (Below w.heap.size w (wr.alloc (.cells #[.string xm,.string xn,.int .i64 xma,.int .i64 xmi] 106))):=B'.alloc B'.size _;have HB5:Hid (Below w5.heap.size w5 (wr.alloc (.cells #[.string xm,.string xn,.int .i64 xma,.int .i64 xmi] 106))):=B.alloc B.size _;have HO6:Hid ((wr.alloc (.cells #[.string xm,.string xn,.int .i64 xma,.int .i64 xmi] 106)).ownsRow w5.heap.size 3 1 (.slice av k kv) k (acc.flatMap intC)):=hown.alloc _;clear hown KB;go_wp2_with fail;refine (HAX.out _ HB6.out).mono ?_;rintro e w7 ⟨rfl,b7⟩;have O7:=own_below HO6.out b7;have B7:=HB6.out.trans (b7.mono HB6.out.size);have E7:=HB5.out.trans (b7.mono HB5.out.size);clear b7 HO6 HB6 HB5 HAX c0 c1 c2 c3 d0 d1 d2
    by_cases hq:q=0
    ·subst hq
     have HR':Hid (AF [] is=AF (acc++[p]) (is.drop (k+1))):=by
      show AF [] is=_
      rw [HR.out];rfl
     have hb5:w5.heap.size≤w7.heap.size:=E7.size;have ha7:k<7:=by omega
     clear HR;go_wp2_with (at_builtin;refine wpList_append_lies _ rfl _ _ _ rfl w5.heap.size 3 ii _ 1 8 Tryz.underlying64 hii hz0 hz1 hz2 rfl (by omega) (.slice av k kv) k (acc.flatMap intC) rfl (O7.alloc _) ⟨w7.heap.size,0,none⟩ 1 1 [.int .i64 p] rfl rfl (World.news_of_block (cs:=#[.int .i64 p]) (t:=3) (fr:=(0,0)) (Za.new w7 3 #[.int .i64 p])) (by simp [Value.oneCell']) (by omega) (by unfold maxLen;omega) (by omega) (by simp;omega) (w7.heap.size+1) (by simp) ?_;intro g gc w8 hown8 hgrow hat hltg);refine ⟨⟨k+1,acc++[p],by omega,by go_num,by rw [List.length_append,HLK.out];rfl,?_,HR'.out,?_⟩,by simp [intOf];omega⟩
     ·rw [List.length_append,List.flatMap_append,HLK.out]
      exact hown8
     ·exact (E7.alloc E7.size _).grown hgrow (by simp;omega) (fun j hj=>ZaP O7 j hj)
    ·have hq':(q != 0)=true:=by simpa using hq
     have HR':Hid (AF [] is=([],q)):=by
      show AF [] is=_
      rw [HR.out,if_pos hq]
     clear HR hq;go_wp2;go_ret2;exact ⟨⟨.slice none 0 0,by rw [HR'.out];rfl,by rw [HR'.out];exact ⟨none,0,rfl,by simp,.inl rfl⟩,by rw [HR'.out];exact World.ownsRow_nil _ _ _ _⟩,B7⟩
   ·obtain rfl:k=is.length:=by omega
    have HZ:Hid (AF [] is=(acc,0)):=by
     show AF [] is=(acc,0)
     rw [HCC.out,List.drop_length,HAN.out]
    go_wp2;go_ret2;exact ⟨⟨_,by rw [HZ.out];rfl,by rw [HZ.out];exact own_ints (by rw [HLK.out];exact hown) (by rw [HLK.out];omega),by rw [HZ.out];exact ZbR (by rw [HLK.out];exact hown) B5.size⟩,B'⟩
theorem all_any (K:Ker) (vk:Value) (l:List PV) (v:Value) (M:Mod) (vm:Value) (w:World) (hK:Zcd w.heap.size w vk K) (hf:K.fits) (hrow:Zax w.heap.size w v l) (hfit:∀ x∈l,x.mod.fits) (hM:Zbf w.heap.size w vm M) (hMf:M.fits) :
  Calls Tryz.prog 32 #[vk,v,vm] w fun e w'=>(∃ r,e=.returned (.tuple #[r,.int .i64 (ZaK K (l.map PV.plc) M).2])∧Zal 1 ZbF w'.heap.size w' r (ZaK K (l.map PV.plc) M).1)∧Below w.heap.size w w':=by
 refine (all_own K vk l v M vm w hK hf hrow hfit hM hMf).mono ?_;rintro e w' ⟨⟨r,h1,h2,_⟩,hb⟩;exact ⟨⟨r,h1,h2⟩,hb⟩
end Go.Proofs.YtlpnfbpgnfappaaGreat
