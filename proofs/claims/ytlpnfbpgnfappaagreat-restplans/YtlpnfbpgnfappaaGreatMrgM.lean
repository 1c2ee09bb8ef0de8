/- Texts that are laid together. -/
import Derived.Test.YtlpnfbpgnfappaaGreatMrgL
import Derived.Lib.BufferRead
import Derived.Deep.RegionWith
import Derived.Lib.QuietBelow
import Derived.Lib.Strings
import Derived.Lib.BufferWrite
import Derived.Lib.UnsafeStr
import Derived.Test.YtlpnfbpgnfappaaGreatMrgC
import Derived.BigQuiet
set_option maxHeartbeats 256000000
set_option maxRecDepth 100000

namespace Go.Proofs.YtlpnfbpgnfappaaGreat
open Go.RowKit Go.PlainAid Go.Lib
theorem Writes.lt {w:World} {B:Nat} {l:List UInt8} (h:Writes w B l):B<w.heap.size:=by obtain ⟨_,hb,_⟩:=h;exact hb.lt
theorem num1 (B m:Nat) (hm:m=1∨m=2) (n:Int) (l:List UInt8) (w:World) (h:Writes w B l) (hl:l.length≤50000000) (M:Value) (hM:M=.int .i64 m) :
  Calls Tryz.prog 129 #[.pointer (some ⟨B,0,none⟩),M,.slice (some ⟨w.heap.size,0,none⟩) 1 1] (w.alloc (.cells #[.int .i64 n] 3)) fun e w'=>e=.returned (.tuple #[])∧Writes w' B (l++Zad m [n])∧ZaG B w w':=by
 subst hM;have hb:Below w.heap.size w (w.alloc (.cells #[.int .i64 n] 3)):=(Below.refl _ _).alloc (Nat.le_refl _) _;have hlt:=h.lt;exact (numbers_any B w.heap.size m hm [n] 1 l _ (h.below hb) (by omega) (World.alloc_heap_new w _) (by simp) hl).mono fun e w' ⟨h1,h2,h3⟩=>⟨h1,h2,(ZaG.of_below hb (by omega)).trans h3⟩
theorem num2 (B:Nat) (a b:Int) (l:List UInt8) (w:World) (h:Writes w B l) (hl:l.length≤50000000) :
  Calls Tryz.prog 129 #[.pointer (some ⟨B,0,none⟩),.int .i64 1,.slice (some ⟨w.heap.size,0,none⟩) 2 2] (w.alloc (.cells #[.int .i64 a,.int .i64 b] 3)) fun e w'=>e=.returned (.tuple #[])∧Writes w' B (l++Zad 1 [a,b])∧ZaG B w w':=by
 have hb:Below w.heap.size w (w.alloc (.cells #[.int .i64 a,.int .i64 b] 3)):=(Below.refl _ _).alloc (Nat.le_refl _) _;have hlt:=h.lt;exact (numbers_any B w.heap.size 1 (.inl rfl) [a,b] 2 l _ (h.below hb) (by omega) (World.alloc_heap_new w _) (by simp) hl).mono fun e w' ⟨h1,h2,h3⟩=>⟨h1,h2,(ZaG.of_below hb (by omega)).trans h3⟩
def nameB (s:ByteArray):List UInt8:=Zad 1 [(s.size:Int)]++s.data.toList
theorem ZaI (s:ByteArray):(nameB s).length=1+s.size:=by
 unfold nameB;rw [List.length_append,Zah]
 simp
theorem wname_any (B:Nat) (s:ByteArray) (l:List UInt8) (w:World) (h:Writes w B l) (hl:l.length≤49000000) (hs:s.size≤1000000) :
  Calls Tryz.prog 128 #[.pointer (some ⟨B,0,none⟩),.string s] w fun e w'=>e=.returned (.tuple #[])∧Writes w' B (l++nameB s)∧ZaG B w w':=by
 have H1:Hid (Calls Tryz.prog 129 #[.pointer (some ⟨B,0,none⟩),.int .i64 1,.slice (some ⟨w.heap.size,0,none⟩) 1 1] (w.alloc (.cells #[.int .i64 s.size] 3)) fun e w'=>e=.returned (.tuple #[])∧Writes w' B (l++Zad 1 [(s.size:Int)])∧ZaG B w w'):=num1 B 1 (.inl rfl) s.size l w h (by omega) _ rfl;have H2:Hid (∀ w,Writes w B (l++Zad 1 [(s.size:Int)])→Calls Tryz.prog 130 #[.pointer (some ⟨B,0,none⟩),.string s] w fun e w'=>e=.returned (.tuple #[])∧Writes w' B (l++nameB s)∧ZaG B w w'):=by
  intro w hw
  have:=add_any B _ s w hw (by rw [List.length_append,Zah];simp;omega)
  rwa [List.append_assoc] at this
 clear hl hs
 go_enter Tryz.func128,Tryz.ntmps128
 go_wp2_with fail;refine Calls.mono H1.out ?_;rintro e w1 ⟨rfl,hW1,hK1⟩;go_wp2_with fail;refine (H2.out _ hW1).mono ?_;rintro e w2 ⟨rfl,hW2,hK2⟩;go_wp2
 go_end0
 exact ⟨rfl,hW2,hK1.trans hK2⟩
theorem whole_any (B:Nat) (l:List UInt8) (w:World) (h:Writes w B l) :
  Calls Tryz.prog 83 #[.pointer (some ⟨B,0,none⟩)] w fun e w'=>e=.returned (.string ⟨l.toArray⟩)∧w'=w:=by
 obtain ⟨sv,hbx,hrow⟩:=h;have hc:=hbx.cell;have hcv:Sem.run Tryz.prog (convert 117 9 sv) w=.ok (.string ⟨l.toArray⟩) w:=by
  rcases hrow.2 with ⟨rfl,hn⟩ | ⟨g,cap,cur,rfl,hg,hb,hcap,hm,hsz,htk⟩
  ·obtain rfl:l=[]:=List.length_eq_zero_iff.1 hn
   exact run_convert_nil_bytes w 117 9 5 0 Tryz.underlying117 Tryz.underlying5 Tryz.underlying9
  ·refine run_convert_bytes_back (P:=Tryz.prog) w 117 9 5 ⟨g,0,none⟩ cap l Tryz.underlying117 Tryz.underlying5 Tryz.underlying9 (fun j hj=>?_)
   have e:w.cell? ⟨g,j,none⟩=some (.int .u8 (l[j].toNat:Int)):=by
    have:=hrow.cells (g:=g) rfl j (.int .u8 (l[j].toNat:Int)) (by simp [List.getElem?_eq_getElem hj])
    by_cases e:j=0
    ·subst e;simpa [Addr.add] using this
    ·simpa [Addr.add,e] using this
   by_cases e':j=0
   ·subst e';simpa [Addr.add] using e
   ·simpa [Addr.add,e'] using e
 obtain ⟨av,kv,rfl⟩:=Zbh hrow
 go_enter Tryz.func83,Tryz.ntmps83
 go_wp2;go_ret;exact ⟨rfl,rfl⟩
theorem box7 {W:World} {c:Nat} {t:TypeId} {fz:Nat × Nat} {a0 a1 a2 a3 a4 a5 a6:Value} (h:W.heap[c]?=some (.cells #[a0,a1,a2,a3,a4,a5,a6] t fz)) :
  W.cell? ⟨c,0,none⟩=some a0∧W.cell? ⟨c,1,none⟩=some a1∧W.cell? ⟨c,2,none⟩=some a2∧W.cell? ⟨c,3,none⟩=some a3∧W.cell? ⟨c,4,none⟩=some a4∧W.cell? ⟨c,5,none⟩=some a5∧W.cell? ⟨c,6,none⟩=some a6:=by
 simp [World.cell?,h]
def expB (e:Exp):List UInt8:=nameB e.name++Zad 2 [e.pos]
def impB (i:Imp):List UInt8:=nameB i.mod++nameB i.name++Zad 1 [i.major,i.minor]
def patB (p:Pat):List UInt8:=Zad 1 [p.kind]++Zad 2 [p.pos]++Zad 1 [p.sym+1]++Zad 2 [p.add]
def headB (M:Mod):List UInt8:=nameB M.name++Zad 1 [M.major,M.minor]++Zad 2 [(M.text.size:Int)]++M.text.data.toList++Zad 1 [(M.exps.length:Int)]
def encL (M:Mod):List UInt8:=headB M++M.exps.flatMap expB++Zad 1 [(M.imps.length:Int)]++M.imps.flatMap impB++Zad 1 [(M.pats.length:Int)]++M.pats.flatMap patB
structure Mod.small (M:Mod):Prop where
 name:M.name.size≤1000
 text:M.text.size≤1000
 nexps:M.exps.length≤6
 nimps:M.imps.length≤6
 npats:M.pats.length≤12
 exps:∀ e∈M.exps,e.name.size≤1000
 imps:∀ i∈M.imps,i.mod.size≤1000∧i.name.size≤1000
 syms:∀ p∈M.pats,-1≤p.sym∧p.sym≤1000
theorem Zbj {α:Type} (f:α→List UInt8) (c:Nat):∀ (l:List α),(∀ x∈l,(f x).length≤c)→(l.flatMap f).length≤c*l.length
 | [],_=>by simp
 | x::l,h=>by
  have h1:=h x (by simp);have h2:=Zbj f c l (fun y hy=>h y (by simp [hy]));rw [List.flatMap_cons,List.length_append,List.length_cons,Nat.mul_succ];omega
theorem Zcb {α β:Type} (f:α→List β) (l:List α) (k:Nat) (x:α) (h:l[k]?=some x):(l.take (k+1)).flatMap f=(l.take k).flatMap f++f x:=by
 rw [List.take_add_one,h];simp
theorem expB_length (e:Exp):(expB e).length=3+e.name.size:=by
 unfold expB;rw [List.length_append,ZaI,Zah];simp;omega
theorem impB_length (i:Imp):(impB i).length=4+i.mod.size+i.name.size:=by
 unfold impB;rw [List.length_append,List.length_append,ZaI,ZaI,Zah];simp;omega
theorem patB_length (p:Pat):(patB p).length=6:=by
 unfold patB;rw [List.length_append,List.length_append,List.length_append,Zah,Zah,Zah,Zah];simp
theorem wmodule_any (M:Mod) (v:Value) (B n₀:Nat) (w:World) (h:Writes w B []) (hn:n₀≤B) (hM:Zbf n₀ w v M) (hs:M.small) :
  Calls Tryz.prog 82 #[.pointer (some ⟨B,0,none⟩),v] w fun e w'=>e=.returned (.tuple #[])∧Writes w' B (encL M)∧ZaG B w w':=by
 obtain ⟨ve,vi,vp,rfl,hE,hI,hP⟩:=hM;have HS:Hid M.small:=hs;have hE0:=hE;have hI0:=hI;have hP0:=hP;obtain ⟨pe,ke,rfl,_,hE⟩:=hE;obtain ⟨pi,ki,rfl,_,hI⟩:=hI;obtain ⟨pp,kp,rfl,_,hP⟩:=hP;have hlt:=h.lt;have HW0:Hid (Writes (w.alloc (.cells #[.string M.name,.int .i64 M.major,.int .i64 M.minor,.string M.text,.slice pe M.exps.length ke,.slice pi M.imps.length ki,.slice pp M.pats.length kp] 31)) B []):=h.below ((Below.refl _ _).alloc (Nat.le_refl _) _);have HK0:Hid (ZaG B w (w.alloc (.cells #[.string M.name,.int .i64 M.major,.int .i64 M.minor,.string M.text,.slice pe M.exps.length ke,.slice pi M.imps.length ki,.slice pp M.pats.length kp] 31))):=(ZaG.refl B w).alloc (by omega) _;have HX0:Hid ((w.alloc (.cells #[.string M.name,.int .i64 M.major,.int .i64 M.minor,.string M.text,.slice pe M.exps.length ke,.slice pi M.imps.length ki,.slice pp M.pats.length kp] 31)).heap[w.heap.size]?=some (.cells #[.string M.name,.int .i64 M.major,.int .i64 M.minor,.string M.text,.slice pe M.exps.length ke,.slice pi M.imps.length ki,.slice pp M.pats.length kp] 31 (0,0))):=World.alloc_heap_new w _;have hcB:w.heap.size≠B:=by omega
 clear hE0 hI0 hP0 h hs
 go_enter Tryz.func82,Tryz.ntmps82
 go_wp2_with fail;refine (wname_any B M.name [] _ HW0.out (by simp) (by have:=HS.out.name;omega)).mono ?_;rintro e w1 ⟨rfl,hW1,hK1⟩;rw [List.nil_append] at hW1;have hX1:=hK1.other _ _ _ _ hcB (by decide) HX0.out;have K1:=HK0.out.trans hK1;obtain ⟨q0,q1,q2,q3,q4,q5,q6⟩:=box7 hX1;clear hK1;go_wp2_with fail;refine (num2 B M.major M.minor _ w1 hW1 (by rw [ZaI];have:=HS.out.name;omega)).mono ?_;rintro e w2 ⟨rfl,hW2,hK2⟩;have hX2:=hK2.other _ _ _ _ hcB (by decide) hX1;have K2:=K1.trans hK2;clear hK2 K1 hX1 hW1 q0 q1 q2 q3 q4 q5 q6;obtain ⟨q0,q1,q2,q3,q4,q5,q6⟩:=box7 hX2;go_wp2_with fail;refine (num1 B 2 (.inr rfl) M.text.size _ w2 hW2 (by rw [List.length_append,ZaI,Zah];simp;have:=HS.out.name;omega) _ rfl).mono ?_;rintro e w3 ⟨rfl,hW3,hK3⟩;have hX3:=hK3.other _ _ _ _ hcB (by decide) hX2;have K3:=K2.trans hK3;clear hK3 K2 hX2 hW2 q0 q1 q2 q3 q4 q5 q6;obtain ⟨q0,q1,q2,q3,q4,q5,q6⟩:=box7 hX3;have HA:Hid (∀ W,Below w3.heap.size w3 W→Calls Tryz.prog 130 #[.pointer (some ⟨B,0,none⟩),.string M.text] W fun e w'=>e=.returned (.tuple #[])∧Writes w' B (nameB M.name++Zad 1 [M.major,M.minor]++Zad 2 [(M.text.size:Int)]++M.text.data.toList)∧ZaG B w3 w'):=by
  intro W hb;exact (add_any B _ M.text W (hW3.below hb) (by rw [List.length_append,List.length_append,ZaI,Zah,Zah];simp;have:=HS.out.name;have:=HS.out.text;omega)).mono fun e w' ⟨h1,h2,h3⟩=>⟨h1,h2,(ZaG.of_below hb (Nat.le_of_lt hW3.lt)).trans h3⟩
 go_wp2_with fail
 go_region_with (go_at_call 130;go_must (refine (HA.out _ (by first | exact (Below.refl _ _).drew | exact below_drewN (Below.refl _ _) _)).mono ?_);rintro e w4 ⟨rfl,hW4,hK4⟩)
 have hX4:=hK4.other _ _ _ _ hcB (by decide) hX3;have K4:=K3.trans hK4;clear hK4 K3 hX3 hW3 q0 q1 q2 q3 q4 q5 q6 HA;obtain ⟨q0,q1,q2,q3,q4,q5,q6⟩:=box7 hX4;go_wp2_with fail;refine (num1 B 1 (.inl rfl) M.exps.length _ w4 hW4 (by rw [List.length_append,List.length_append,List.length_append,ZaI,Zah,Zah];simp;have:=HS.out.name;have:=HS.out.text;omega) _ rfl).mono ?_;rintro e w5 ⟨rfl,hW5,hK5⟩;have hX5:=hK5.other _ _ _ _ hcB (by decide) hX4;have K5:=K4.trans hK5;clear hK5 K4 hX4 hW4 q0 q1 q2 q3 q4 q5 q6;obtain ⟨q0,q1,q2,q3,q4,q5,q6⟩:=box7 hX5;have HHL:Hid ((headB M).length≤3000):=by
  show (headB M).length≤3000
  unfold headB;rw [List.length_append,List.length_append,List.length_append,List.length_append,ZaI,Zah,Zah,Zah];simp;have:=HS.out.name;have:=HS.out.text;omega
 change Writes w5 B (headB M) at hW5
 have HEL:Hid (∀ k,((M.exps.take k).flatMap expB).length≤7000):=by
  intro k;have h1:=Zbj expB 1003 (M.exps.take k) (fun x hx=>by rw [expB_length];have:=HS.out.exps x (List.mem_of_mem_take hx);omega);have h2:(M.exps.take k).length≤6:=by rw [List.length_take];have:=HS.out.nexps;omega
  omega
 have HIL:Hid (∀ k,((M.imps.take k).flatMap impB).length≤14000):=by
  intro k;have h1:=Zbj impB 2004 (M.imps.take k) (fun x hx=>by rw [impB_length];have:=HS.out.imps x (List.mem_of_mem_take hx);omega);have h2:(M.imps.take k).length≤6:=by rw [List.length_take];have:=HS.out.nimps;omega
  omega
 have HPL:Hid (∀ k,((M.pats.take k).flatMap patB).length≤72):=by
  intro k;have h1:=Zbj patB 6 (M.pats.take k) (fun x _=>by rw [patB_length];omega);have h2:(M.pats.take k).length≤12:=by rw [List.length_take];have:=HS.out.npats;omega
  omega
 have hne:M.exps.length≤6:=HS.out.nexps;have hni:M.imps.length≤6:=HS.out.nimps;have hnp:M.pats.length≤12:=HS.out.npats;go_wp2;clear q0 q1 q2 q3 q4 q5 q6
 go_loopw [42] (fun i wr=>∃ (k:Nat),k≤M.exps.length∧i=.int .i64 k∧Writes wr B (headB M++(M.exps.take k).flatMap expB)∧ZaG B w5 wr) (fun i _=>M.exps.length-(intOf i).toNat)
 case atStart=>exact ⟨0,Nat.zero_le _,rfl,by simpa using hW5,ZaG.refl _ _⟩
 case round=>
  obtain ⟨k,hk,rfl,hW,hK⟩:=hrel
  by_cases hlt1:k<M.exps.length
  ·obtain ⟨p,hp⟩:∃ p,M.exps[k]?=some p:=⟨_,List.getElem?_eq_getElem hlt1⟩
   rcases hE with h | ⟨b,off,rfl,hbn,hc⟩
   ·rw [h] at hlt1;simp at hlt1
   have Kw:=K5.trans hK;have c0:=(Kw.below.cell (p:=⟨b,off+k*2+0,none⟩) (by simp;omega)).trans (hc k _ hp 0 (by omega));have c1:=(Kw.below.cell (p:=⟨b,off+k*2+1,none⟩) (by simp;omega)).trans (hc k _ hp 1 (by omega));have HN:Hid (∀ w,Writes w B (headB M++(M.exps.take k).flatMap expB)→Calls Tryz.prog 128 #[.pointer (some ⟨B,0,none⟩),.string p.name] w fun e w'=>e=.returned (.tuple #[])∧Writes w' B (headB M++(M.exps.take k).flatMap expB++nameB p.name)∧ZaG B w w'):=
    fun w hw=>wname_any B p.name _ w hw (by rw [List.length_append];have:=HHL.out;have:=HEL.out k;omega) (by have:=HS.out.exps p (List.mem_of_getElem? hp);omega)
   have HQ:Hid (∀ w,Writes w B (headB M++(M.exps.take k).flatMap expB++nameB p.name)→Calls Tryz.prog 129 #[.pointer (some ⟨B,0,none⟩),.int .i64 2,.slice (some ⟨w.heap.size,0,none⟩) 1 1] (w.alloc (.cells #[.int .i64 p.pos] 3)) fun e w'=>e=.returned (.tuple #[])∧Writes w' B (headB M++(M.exps.take (k+1)).flatMap expB)∧ZaG B w w'):=by
    intro w hw
    have:=num1 B 2 (.inr rfl) p.pos _ w hw (by rw [List.length_append,List.length_append,ZaI];have:=HHL.out;have:=HEL.out k;have:=HS.out.exps p (List.mem_of_getElem? hp);omega) _ rfl
    rwa [List.append_assoc,List.append_assoc,show nameB p.name++Zad 2 [p.pos]=expB p from rfl,← Zcb expB _ _ _ hp] at this
   obtain ⟨n,A⟩:=p;dsimp only [Exp.cell] at c0 c1 HN HQ;rw [Nat.add_zero] at c0;have hBr:=hW.lt;clear hc hp Kw;go_wp2_with fail;refine (HN.out _ (hW.below ((Below.refl _ _).alloc (Nat.le_refl _) _))).mono ?_;rintro e w6 ⟨rfl,hW6,hK6⟩;have hb6:=hK6.other wr.heap.size _ _ _ (by omega) (by decide) (World.alloc_heap_new wr _);have x1:w6.cell? ⟨wr.heap.size,1,none⟩=some (.int .i64 A):=by simp [World.cell?,hb6]
   clear hb6;go_wp2_with fail;refine (HQ.out _ hW6).mono ?_;rintro e w7 ⟨rfl,hW7,hK7⟩;go_wp2;exact ⟨⟨k+1,by omega,by go_num,hW7,hK.trans ((((ZaG.refl B wr).alloc (by omega) _).trans hK6).trans hK7)⟩,by simp [intOf];omega⟩
  ·obtain rfl:k=M.exps.length:=by omega
   rw [List.take_length] at hW;have hX6:=hK.other _ _ _ _ hcB (by decide) hX5;have K6:=K5.trans hK;obtain ⟨q0,q1,q2,q3,q4,q5,q6⟩:=box7 hX6;clear hE hX5 hK K5 HEL;have HL1:Hid ((headB M++M.exps.flatMap expB).length≤10000):=by
    show (headB M++M.exps.flatMap expB).length≤10000
    have h1:=Zbj expB 1003 M.exps (fun x hx=>by rw [expB_length];have:=HS.out.exps x hx;omega);rw [List.length_append];have:=HHL.out;omega
   obtain ⟨L1,E1⟩:∃ L,Hid (L=headB M++M.exps.flatMap expB):=⟨_,rfl⟩;rw [← E1.out] at hW HL1;clear HHL;go_wp2_with fail;refine (num1 B 1 (.inl rfl) M.imps.length _ wr hW (by have:=HL1.out;omega) _ rfl).mono ?_;rintro e v1 ⟨rfl,hV1,hJ1⟩;have hX7:=hJ1.other _ _ _ _ hcB (by decide) hX6;have K7:=K6.trans hJ1;clear hJ1 K6 hX6 hW q0 q1 q2 q3 q4 q5 q6;obtain ⟨q0,q1,q2,q3,q4,q5,q6⟩:=box7 hX7;have HL2:Hid ((L1++Zad 1 [(M.imps.length:Int)]).length≤10100):=by
    show (L1++Zad 1 [(M.imps.length:Int)]).length≤10100
    rw [List.length_append,Zah];simp;have:=HL1.out;omega
   obtain ⟨L2,E2⟩:∃ L,Hid (L=L1++Zad 1 [(M.imps.length:Int)]):=⟨_,rfl⟩;rw [← E2.out] at hV1 HL2;clear HL1;go_wp2;clear q0 q1 q2 q3 q4 q5 q6
   go_loopw [65] (fun i wr=>∃ (k:Nat),k≤M.imps.length∧i=.int .i64 k∧Writes wr B (L2++(M.imps.take k).flatMap impB)∧ZaG B v1 wr) (fun i _=>M.imps.length-(intOf i).toNat)
   case atStart=>exact ⟨0,Nat.zero_le _,rfl,by simpa using hV1,ZaG.refl _ _⟩
   case round=>
    obtain ⟨k,hk,rfl,hW,hK⟩:=hrel
    by_cases hlt2:k<M.imps.length
    ·obtain ⟨p,hp⟩:∃ p,M.imps[k]?=some p:=⟨_,List.getElem?_eq_getElem hlt2⟩
     rcases hI with h | ⟨b,off,rfl,hbn,hc⟩
     ·rw [h] at hlt2;simp at hlt2
     have Kw:=K7.trans hK;have c0:=(Kw.below.cell (p:=⟨b,off+k*4+0,none⟩) (by simp;omega)).trans (hc k _ hp 0 (by omega));have c1:=(Kw.below.cell (p:=⟨b,off+k*4+1,none⟩) (by simp;omega)).trans (hc k _ hp 1 (by omega));have c2:=(Kw.below.cell (p:=⟨b,off+k*4+2,none⟩) (by simp;omega)).trans (hc k _ hp 2 (by omega));have c3:=(Kw.below.cell (p:=⟨b,off+k*4+3,none⟩) (by simp;omega)).trans (hc k _ hp 3 (by omega));have hsz:=HS.out.imps p (List.mem_of_getElem? hp);have HN1:Hid (∀ w,Writes w B (L2++(M.imps.take k).flatMap impB)→Calls Tryz.prog 128 #[.pointer (some ⟨B,0,none⟩),.string p.mod] w fun e w'=>e=.returned (.tuple #[])∧Writes w' B (L2++(M.imps.take k).flatMap impB++nameB p.mod)∧ZaG B w w'):=
      fun w hw=>wname_any B p.mod _ w hw (by rw [List.length_append];have:=HL2.out;have:=HIL.out k;omega) (by omega)
     have HN2:Hid (∀ w,Writes w B (L2++(M.imps.take k).flatMap impB++nameB p.mod)→Calls Tryz.prog 128 #[.pointer (some ⟨B,0,none⟩),.string p.name] w fun e w'=>e=.returned (.tuple #[])∧Writes w' B (L2++(M.imps.take k).flatMap impB++nameB p.mod++nameB p.name)∧ZaG B w w'):=
      fun w hw=>wname_any B p.name _ w hw (by rw [List.length_append,List.length_append,ZaI];have:=HL2.out;have:=HIL.out k;omega) (by omega)
     have HQ:Hid (∀ w,Writes w B (L2++(M.imps.take k).flatMap impB++nameB p.mod++nameB p.name)→Calls Tryz.prog 129 #[.pointer (some ⟨B,0,none⟩),.int .i64 1,.slice (some ⟨w.heap.size,0,none⟩) 2 2] (w.alloc (.cells #[.int .i64 p.major,.int .i64 p.minor] 3)) fun e w'=>e=.returned (.tuple #[])∧Writes w' B (L2++(M.imps.take (k+1)).flatMap impB)∧ZaG B w w'):=by
      intro w hw
      have:=num2 B p.major p.minor _ w hw (by rw [List.length_append,List.length_append,List.length_append,ZaI,ZaI];have:=HL2.out;have:=HIL.out k;omega)
      have e:L2++(M.imps.take k).flatMap impB++nameB p.mod++nameB p.name++Zad 1 [p.major,p.minor]=L2++(M.imps.take (k+1)).flatMap impB:=by
       rw [Zcb impB _ _ _ hp];simp [impB]
      rwa [e] at this
     obtain ⟨m,n,va,vb⟩:=p;dsimp only [Imp.cell] at c0 c1 c2 c3 HN1 HN2 HQ;rw [Nat.add_zero] at c0;have hBr:=hW.lt;clear hc hp Kw hsz;go_wp2_with fail;refine (HN1.out _ (hW.below ((Below.refl _ _).alloc (Nat.le_refl _) _))).mono ?_;rintro e v2 ⟨rfl,hV2,hJ2⟩;have hb2:=hJ2.other wr.heap.size _ _ _ (by omega) (by decide) (World.alloc_heap_new wr _);have x1:v2.cell? ⟨wr.heap.size,1,none⟩=some (.string n):=by simp [World.cell?,hb2]
     go_wp2_with fail;refine (HN2.out _ hV2).mono ?_;rintro e v3 ⟨rfl,hV3,hJ3⟩;have hb3:=hJ3.other wr.heap.size _ _ _ (by omega) (by decide) hb2;have x2:v3.cell? ⟨wr.heap.size,2,none⟩=some (.int .i64 va):=by simp [World.cell?,hb3]
     have x3:v3.cell? ⟨wr.heap.size,3,none⟩=some (.int .i64 vb):=by simp [World.cell?,hb3]
     clear hb2 hb3;go_wp2_with fail;refine (HQ.out _ hV3).mono ?_;rintro e v4 ⟨rfl,hV4,hJ4⟩;go_wp2;exact ⟨⟨k+1,by omega,by go_num,hV4,hK.trans (((((ZaG.refl B wr).alloc (by omega) _).trans hJ2).trans hJ3).trans hJ4)⟩,by simp [intOf];omega⟩
    ·obtain rfl:k=M.imps.length:=by omega
     rw [List.take_length] at hW;have hX8:=hK.other _ _ _ _ hcB (by decide) hX7;have K8:=K7.trans hK;obtain ⟨q0,q1,q2,q3,q4,q5,q6⟩:=box7 hX8;clear hI hX7 hK K7 HIL;have HL3:Hid ((L2++M.imps.flatMap impB).length≤30000):=by
      show (L2++M.imps.flatMap impB).length≤30000
      have h1:=Zbj impB 2004 M.imps (fun x hx=>by rw [impB_length];have:=HS.out.imps x hx;omega);rw [List.length_append];have:=HL2.out;omega
     obtain ⟨L3,E3⟩:∃ L,Hid (L=L2++M.imps.flatMap impB):=⟨_,rfl⟩;rw [← E3.out] at hW HL3;clear HL2;go_wp2_with fail;refine (num1 B 1 (.inl rfl) M.pats.length _ wr hW (by have:=HL3.out;omega) _ rfl).mono ?_;rintro e u1 ⟨rfl,hU1,hJ1⟩;have hX9:=hJ1.other _ _ _ _ hcB (by decide) hX8;have K9:=K8.trans hJ1;clear hJ1 K8 hX8 hW q0 q1 q2 q3 q4 q5 q6;obtain ⟨q0,q1,q2,q3,q4,q5,q6⟩:=box7 hX9;have HL4:Hid ((L3++Zad 1 [(M.pats.length:Int)]).length≤30100):=by
      show (L3++Zad 1 [(M.pats.length:Int)]).length≤30100
      rw [List.length_append,Zah];simp;have:=HL3.out;omega
     obtain ⟨L4,E4⟩:∃ L,Hid (L=L3++Zad 1 [(M.pats.length:Int)]):=⟨_,rfl⟩;rw [← E4.out] at hU1 HL4;clear HL3;go_wp2;clear q0 q1 q2 q3 q4 q5 q6
     go_loopw [94] (fun i wr=>∃ (k:Nat),k≤M.pats.length∧i=.int .i64 k∧Writes wr B (L4++(M.pats.take k).flatMap patB)∧ZaG B u1 wr) (fun i _=>M.pats.length-(intOf i).toNat)
     case atStart=>exact ⟨0,Nat.zero_le _,rfl,by simpa using hU1,ZaG.refl _ _⟩
     case round=>
      obtain ⟨k,hk,rfl,hW,hK⟩:=hrel
      by_cases hlt3:k<M.pats.length
      ·obtain ⟨p,hp⟩:∃ p,M.pats[k]?=some p:=⟨_,List.getElem?_eq_getElem hlt3⟩
       rcases hP with h | ⟨b,off,rfl,hbn,hc⟩
       ·rw [h] at hlt3;simp at hlt3
       have Kw:=K9.trans hK;have c0:=(Kw.below.cell (p:=⟨b,off+k*4+0,none⟩) (by simp;omega)).trans (hc k _ hp 0 (by omega));have c1:=(Kw.below.cell (p:=⟨b,off+k*4+1,none⟩) (by simp;omega)).trans (hc k _ hp 1 (by omega));have c2:=(Kw.below.cell (p:=⟨b,off+k*4+2,none⟩) (by simp;omega)).trans (hc k _ hp 2 (by omega));have c3:=(Kw.below.cell (p:=⟨b,off+k*4+3,none⟩) (by simp;omega)).trans (hc k _ hp 3 (by omega));have hsym:=HS.out.syms p (List.mem_of_getElem? hp);obtain ⟨hsy0,hsy1⟩:=hsym;have HLk:Hid ((L4++(M.pats.take k).flatMap patB).length≤40000):=by
        show (L4++(M.pats.take k).flatMap patB).length≤40000
        rw [List.length_append];have:=HL4.out;have:=HPL.out k;omega
       have HQ1:Hid (∀ w,Writes w B (L4++(M.pats.take k).flatMap patB)→Calls Tryz.prog 129 #[.pointer (some ⟨B,0,none⟩),.int .i64 1,.slice (some ⟨w.heap.size,0,none⟩) 1 1] (w.alloc (.cells #[.int .i64 p.kind] 3)) fun e w'=>e=.returned (.tuple #[])∧Writes w' B (L4++(M.pats.take k).flatMap patB++Zad 1 [p.kind])∧ZaG B w w'):=
        fun w hw=>num1 B 1 (.inl rfl) p.kind _ w hw (by have:=HLk.out;omega) _ rfl
       have HQ2:Hid (∀ w,Writes w B (L4++(M.pats.take k).flatMap patB++Zad 1 [p.kind])→Calls Tryz.prog 129 #[.pointer (some ⟨B,0,none⟩),.int .i64 2,.slice (some ⟨w.heap.size,0,none⟩) 1 1] (w.alloc (.cells #[.int .i64 p.pos] 3)) fun e w'=>e=.returned (.tuple #[])∧Writes w' B (L4++(M.pats.take k).flatMap patB++Zad 1 [p.kind]++Zad 2 [p.pos])∧ZaG B w w'):=
        fun w hw=>num1 B 2 (.inr rfl) p.pos _ w hw (by rw [List.length_append,Zah];have:=HLk.out;simp only [List.length_cons,List.length_nil];omega) _ rfl
       have HQ3:Hid (∀ w,Writes w B (L4++(M.pats.take k).flatMap patB++Zad 1 [p.kind]++Zad 2 [p.pos])→Calls Tryz.prog 129 #[.pointer (some ⟨B,0,none⟩),.int .i64 1,.slice (some ⟨w.heap.size,0,none⟩) 1 1] (w.alloc (.cells #[.int .i64 (p.sym+1)] 3)) fun e w'=>e=.returned (.tuple #[])∧Writes w' B (L4++(M.pats.take k).flatMap patB++Zad 1 [p.kind]++Zad 2 [p.pos]++Zad 1 [p.sym+1])∧ZaG B w w'):=
        fun w hw=>num1 B 1 (.inl rfl) (p.sym+1) _ w hw (by rw [List.length_append,List.length_append,Zah,Zah];have:=HLk.out;simp only [List.length_cons,List.length_nil];omega) _ rfl
       have HQ4:Hid (∀ w,Writes w B (L4++(M.pats.take k).flatMap patB++Zad 1 [p.kind]++Zad 2 [p.pos]++Zad 1 [p.sym+1])→Calls Tryz.prog 129 #[.pointer (some ⟨B,0,none⟩),.int .i64 2,.slice (some ⟨w.heap.size,0,none⟩) 1 1] (w.alloc (.cells #[.int .i64 p.add] 3)) fun e w'=>e=.returned (.tuple #[])∧Writes w' B (L4++(M.pats.take (k+1)).flatMap patB)∧ZaG B w w'):=by
        intro w hw
        have:=num1 B 2 (.inr rfl) p.add _ w hw (by rw [List.length_append,List.length_append,List.length_append,Zah,Zah,Zah];have:=HLk.out;simp only [List.length_cons,List.length_nil];omega) _ rfl
        have e:L4++(M.pats.take k).flatMap patB++Zad 1 [p.kind]++Zad 2 [p.pos]++Zad 1 [p.sym+1]++Zad 2 [p.add]=L4++(M.pats.take (k+1)).flatMap patB:=by
         rw [Zcb patB _ _ _ hp];simp only [patB,List.append_assoc]
        rwa [e] at this
       obtain ⟨K,A,S,D⟩:=p;dsimp only [Pat.cell] at c0 c1 c2 c3 HQ1 HQ2 HQ3 HQ4 hsy0 hsy1;rw [Nat.add_zero] at c0;have hBr:=hW.lt;have HQ1b:Hid (Calls Tryz.prog 129 #[.pointer (some ⟨B,0,none⟩),.int .i64 1,.slice (some ⟨wr.heap.size+1,0,none⟩) 1 1] ((wr.alloc (.cells #[.int .i64 K,.int .i64 A,.int .i64 S,.int .i64 D] 113)).alloc (.cells #[.int .i64 K] 3)) fun e w'=>e=.returned (.tuple #[])∧Writes w' B (L4++(M.pats.take k).flatMap patB++Zad 1 [K])∧ZaG B (wr.alloc (.cells #[.int .i64 K,.int .i64 A,.int .i64 S,.int .i64 D] 113)) w'):=by
        have:=HQ1.out (wr.alloc (.cells #[.int .i64 K,.int .i64 A,.int .i64 S,.int .i64 D] 113)) (hW.below ((Below.refl _ _).alloc (Nat.le_refl _) _))
        rwa [World.size_alloc] at this
       clear hc hp Kw HQ1;go_wp2_with fail;refine Calls.mono HQ1b.out ?_;rintro e u2 ⟨rfl,hU2,hJ2⟩;have hb2:=hJ2.other wr.heap.size _ _ _ (by omega) (by decide) (World.alloc_heap_new wr _);have x1:u2.cell? ⟨wr.heap.size,1,none⟩=some (.int .i64 A):=by simp [World.cell?,hb2]
       go_wp2_with fail;refine (HQ2.out _ hU2).mono ?_;rintro e u3 ⟨rfl,hU3,hJ3⟩;have hb3:=hJ3.other wr.heap.size _ _ _ (by omega) (by decide) hb2;have x2:u3.cell? ⟨wr.heap.size,2,none⟩=some (.int .i64 S):=by simp [World.cell?,hb3]
       go_wp2_with fail;refine (HQ3.out _ hU3).mono ?_;rintro e u4 ⟨rfl,hU4,hJ4⟩;have hb4:=hJ4.other wr.heap.size _ _ _ (by omega) (by decide) hb3;have x3:u4.cell? ⟨wr.heap.size,3,none⟩=some (.int .i64 D):=by simp [World.cell?,hb4]
       clear hb2 hb3 hb4;go_wp2_with fail;refine (HQ4.out _ hU4).mono ?_;rintro e u5 ⟨rfl,hU5,hJ5⟩;go_wp2;exact ⟨⟨k+1,by omega,by go_num,hU5,hK.trans ((((((ZaG.refl B wr).alloc (by omega) _).trans hJ2).trans hJ3).trans hJ4).trans hJ5)⟩,by simp [intOf];omega⟩
      ·obtain rfl:k=M.pats.length:=by omega
       rw [List.take_length] at hW;have HF:Hid (encL M=L4++M.pats.flatMap patB):=by
        show encL M=_
        rw [E4.out,E3.out,E2.out,E1.out];rfl
       clear hP;go_wp2
       go_end0
       exact ⟨rfl,by rw [HF.out];exact hW,K9.trans hK⟩
theorem chkExps_all (most:Int):∀ (l:List Exp) (met:List ByteArray),Zay most met l=0→∀ e∈l,isNm e.name=true∧0≤e.pos∧e.pos<most
 | [],_,_=>by simp
 | e::l,met,h=>by
  rw [Zay] at h;have key:=expErr_cases most met e.name e.pos
  split at h
  ·rename_i h0
   intro x hx
   rcases List.mem_cons.1 hx with rfl | hx
   ·rcases key with ⟨_,k⟩ | ⟨_,_,k⟩ | ⟨_,_,_,k⟩ | ⟨_,_,_,_,k⟩ | ⟨k1,_,k2,k3,_⟩
    ·exact absurd (h0.symm.trans k) (by omega)
    ·exact absurd (h0.symm.trans k) (by omega)
    ·exact absurd (h0.symm.trans k) (by omega)
    ·exact absurd (h0.symm.trans k) (by omega)
    ·exact ⟨k1,k2,k3⟩
   ·exact chkExps_all most l _ h x hx
  ·exact absurd h ‹_›
theorem chkImps_all:∀ (l:List Imp) (met:List (ByteArray × ByteArray)),chkImps met l=0→∀ i∈l,isNm i.mod=true∧isNm i.name=true∧Zcg i.major i.minor=true
 | [],_,_=>by simp
 | e::l,met,h=>by
  rw [chkImps] at h;have key:=impErr_cases met e.mod e.name e.major e.minor
  split at h
  ·rename_i h0
   intro x hx
   rcases List.mem_cons.1 hx with rfl | hx
   ·rcases key with ⟨_,k⟩ | ⟨_,_,k⟩ | ⟨_,_,_,k⟩ | ⟨_,_,_,_,k⟩ | ⟨k1,k2,_,k3,_⟩
    ·exact absurd (h0.symm.trans k) (by omega)
    ·exact absurd (h0.symm.trans k) (by omega)
    ·exact absurd (h0.symm.trans k) (by omega)
    ·exact absurd (h0.symm.trans k) (by omega)
    ·exact ⟨k1,k2,k3⟩
   ·exact chkImps_all l _ h x hx
  ·exact absurd h ‹_›
theorem chkPats_all (bytes imports:Int):∀ (l:List Pat) (ende:Int),Zbk bytes imports ende l=0→∀ p∈l,width p.kind≠0∧-1≤p.sym∧p.sym<imports∧0≤p.add∧p.add≤65535∧0≤p.pos∧p.pos≤bytes-width p.kind
 | [],_,_=>by simp
 | e::l,ende,h=>by
  rw [Zbk] at h;have key:=patErr_cases bytes imports ende e.kind e.pos e.sym e.add
  split at h
  ·rename_i h0
   intro x hx
   rcases List.mem_cons.1 hx with rfl | hx
   ·rcases key with ⟨_,k⟩ | ⟨k0,⟨_,k⟩ | ⟨_,_,k⟩ | ⟨_,_,_,k⟩ | ⟨_,_,_,_,k⟩ | ⟨k1,k2,k3,k4,⟨_,k⟩ | ⟨_,_,k⟩ | ⟨_,_,_,k⟩ | ⟨k5,k6,_,_⟩⟩⟩
    ·exact absurd (h0.symm.trans k) (by omega)
    ·exact absurd (h0.symm.trans k) (by omega)
    ·exact absurd (h0.symm.trans k) (by omega)
    ·exact absurd (h0.symm.trans k) (by omega)
    ·exact absurd (h0.symm.trans k) (by omega)
    ·exact absurd (h0.symm.trans k) (by omega)
    ·exact absurd (h0.symm.trans k) (by omega)
    ·exact absurd (h0.symm.trans k) (by omega)
    ·exact ⟨k0,k1,k2,k3,k4,k5,k6⟩
   ·exact chkPats_all bytes imports l _ h x hx
  ·exact absurd h ‹_›
theorem chkMod_zero {M:Mod} (h:Zac M=0):isNm M.name=true∧(M.name == kernelName)=false∧Zcg M.major M.minor=true∧M.text.size≤256∧M.exps.length≤6∧M.imps.length≤6∧M.pats.length≤12∧0<M.text.size∧M.text.size % 4=0∧
  Zay M.text.size [] M.exps=0∧chkImps [] M.imps=0∧Zbk M.text.size M.imps.length 0 M.pats=0:=by
 rcases chkMod_cases M with ⟨_,k⟩ | ⟨h1,⟨_,k⟩ | ⟨h2,⟨_,k⟩ | ⟨h3,⟨_,k⟩ | ⟨_,t1,t2,t3,t4,⟨_,k⟩ | ⟨h5,⟨_,k⟩ | ⟨h6,⟨h7,k⟩ | ⟨h7,⟨h8,k⟩ | ⟨h8,k⟩⟩⟩⟩⟩⟩⟩⟩
 ·exact absurd (h.symm.trans k) (by omega)
 ·exact absurd (h.symm.trans k) (by omega)
 ·exact absurd (h.symm.trans k) (by omega)
 ·exact absurd (h.symm.trans k) (by omega)
 ·exact absurd (h.symm.trans k) (by omega)
 ·exact absurd (h.symm.trans k) (by omega)
 ·exact absurd (h.symm.trans k).symm h7
 ·exact absurd (h.symm.trans k).symm h8
 ·exact ⟨h1,h2,h3,t1,t2,t3,t4,h5,h6,h7,h8,k.symm.trans h⟩
theorem small_of_chk {M:Mod} (h:Zac M=0):M.small:=by
 obtain ⟨h1,_,_,t1,t2,t3,t4,_,_,h7,h8,h9⟩:=chkMod_zero h;refine ⟨by have:=isNm_size h1;omega,by omega,t2,t3,t4,fun e he=>?_,fun i hi=>?_,fun p hp=>?_⟩
 ·have:=isNm_size (chkExps_all _ _ _ h7 e he).1;omega
 ·obtain ⟨a,b,_⟩:=chkImps_all _ _ h8 i hi
  have:=isNm_size a;have:=isNm_size b;omega
 ·obtain ⟨_,a,b,_⟩:=chkPats_all _ _ _ _ h9 p hp
  omega
def encS (M:Mod):ByteArray:=⟨(encL M).toArray⟩
def encR (M:Mod):ByteArray:=if Zac M=0 then encS M else ⟨#[]⟩
theorem encode_any (M:Mod) (v:Value) (w:World) (hM:Zbf w.heap.size w v M) (hf:M.fits) :
  Calls Tryz.prog 30 #[v] w fun e w'=>e=.returned (.tuple #[.string (encR M),.int .i64 (Zac M)])∧Below w.heap.size w w':=by
 have hM0:=hM;obtain ⟨ve,vi,vp,rfl,hE,hI,hP⟩:=hM0;obtain ⟨pe,ke,rfl,_,_⟩:=hE;obtain ⟨pi,ki,rfl,_,_⟩:=hI;obtain ⟨pp,kp,rfl,_,_⟩:=hP;have HC:Hid (∀ W,Below w.heap.size w W→Calls Tryz.prog 64 #[.agg #[.string M.name,.int .i64 M.major,.int .i64 M.minor,.string M.text,.slice pe M.exps.length ke,.slice pi M.imps.length ki,.slice pp M.pats.length kp]] W fun e w'=>e=.returned (.int .i64 (Zac M))∧Below W.heap.size W w'):=
  fun W hb=>check_any M _ W ((hM.below hb).more hb.size) hf
 have HWM:Hid (∀ W B,Below w.heap.size w W→w.heap.size≤B→M.small→Writes W B []→Calls Tryz.prog 82 #[.pointer (some ⟨B,0,none⟩),.agg #[.string M.name,.int .i64 M.major,.int .i64 M.minor,.string M.text,.slice pe M.exps.length ke,.slice pi M.imps.length ki,.slice pp M.pats.length kp]] W fun e w'=>e=.returned (.tuple #[])∧Writes w' B (encL M)∧ZaG B W w'):=
  fun W B hb hB hs hw=>wmodule_any M _ B w.heap.size W hw hB (hM.below hb) hs
 have HW1:Hid (Below w.heap.size w (w.alloc (.cells #[.string M.name,.int .i64 M.major,.int .i64 M.minor,.string M.text,.slice pe M.exps.length ke,.slice pi M.imps.length ki,.slice pp M.pats.length kp] 31))):=(Below.refl _ _).alloc (Nat.le_refl _) _;have HX0:Hid ((w.alloc (.cells #[.string M.name,.int .i64 M.major,.int .i64 M.minor,.string M.text,.slice pe M.exps.length ke,.slice pi M.imps.length ki,.slice pp M.pats.length kp] 31)).heap[w.heap.size]?=some (.cells #[.string M.name,.int .i64 M.major,.int .i64 M.minor,.string M.text,.slice pe M.exps.length ke,.slice pi M.imps.length ki,.slice pp M.pats.length kp] 31 (0,0))):=World.alloc_heap_new w _;clear hM hf
 by_cases h0:Zac M=0
 ·have hsm:=small_of_chk h0
  have HR:Hid (encR M=⟨(encL M).toArray⟩):=by show encR M=_;rw [encR,if_pos h0];rfl
  rw [h0] at HC ⊢;rw [HR.out];have HSM:Hid M.small:=hsm;clear h0 hsm HR
  go_enter Tryz.func30,Tryz.ntmps30
  go_wp2_with fail;refine (HC.out _ HW1.out).mono ?_;rintro e w1 ⟨rfl,b1⟩;have B1:=HW1.out.trans (b1.mono HW1.out.size);have hX1:=(b1.block w.heap.size (by simp)).trans HX0.out;have hz1:w.heap.size<w1.heap.size:=by have:=b1.size;simp at this;omega
  obtain ⟨q0,q1,q2,q3,q4,q5,q6⟩:=box7 hX1;have ka:∀ o i v,w1.cell? ⟨w.heap.size,i,none⟩=some v→(w1.alloc o).cell? ⟨w.heap.size,i,none⟩=some v:=fun o i v h=>cell_kept h (World.grownBy_alloc w1 o none) (fun r e=>by cases e);have r0:=fun o=>ka o 0 _ q0;have r1:=fun o=>ka o 1 _ q1;have r2:=fun o=>ka o 2 _ q2;have r3:=fun o=>ka o 3 _ q3;have r4:=fun o=>ka o 4 _ q4;have r5:=fun o=>ka o 5 _ q5;have r6:=fun o=>ka o 6 _ q6;have HWR:Hid (Writes (w1.alloc (.cells #[.slice none 0 0] 121)) w1.heap.size []):=⟨.slice none 0 0,Boxed.new _ _ _,World.ownsRow_nil _ _ _ _⟩;clear ka b1;go_wp2_with fail;refine (HWM.out _ _ (B1.alloc (by omega) _) (by omega) HSM.out HWR.out).mono ?_;rintro e w2 ⟨rfl,hW2,hK2⟩;have B2:Below w.heap.size w w2:=(B1.alloc (by omega) _).trans (hK2.below.mono (by omega));go_wp2_with fail;refine (whole_any _ _ w2 hW2).mono ?_;rintro e w3 ⟨rfl,rfl⟩;go_wp2;go_ret2;exact ⟨rfl,B2⟩
 ·have HR:Hid (encR M=⟨#[]⟩):=by show encR M=_;rw [encR,if_neg h0]
  rw [HR.out];have hne:(Zac M != 0)=true:=by simpa using h0
  clear h0 HR HWM;generalize Zac M=R at *
  go_enter Tryz.func30,Tryz.ntmps30
  go_wp2_with fail;refine (HC.out _ HW1.out).mono ?_;rintro e w1 ⟨rfl,b1⟩;go_wp2;go_ret2;exact ⟨rfl,HW1.out.trans (b1.mono HW1.out.size)⟩
def toBa (l:List UInt8):ByteArray:=⟨l.toArray⟩
theorem toBa_size (l:List UInt8):(toBa l).size=l.length:=by
 show l.toArray.size=l.length
 simp
end Go.Proofs.YtlpnfbpgnfappaaGreat
namespace Go.Proofs.YtlpnfbpgnfappaaGreat
open Go.RowKit Go.PlainAid
theorem sclone_any (s:ByteArray) (w:World) (hs:s.size≤140737488351232) :
  Calls Tryz.prog 189 #[.string s] w fun e w'=>e=.returned (.string s)∧Below w.heap.size w w':=by
 by_cases h0:s.size=0
 ·obtain rfl:s=⟨#[]⟩:=ByteArray.ext (Array.eq_empty_of_size_eq_zero h0)
  go_enter Tryz.func189,Tryz.ntmps189
  go_wp2;go_ret;exact ⟨rfl,Below.refl _ _⟩
 obtain ⟨i0,hi,hz0,hz1,hz2⟩:=info_parts info5;have hinfo:(Tryz.prog.info? 5).map (·.size)=some 1:=by rw [hi];simp [hz1]
 have hco:Tryz.prog.cellsOf 5=1:=by kernel_rfl
 obtain ⟨C,hC⟩:∃ C,C=madeCells (Value.int .u8 0).cells (((s.size:Nat):Int).toNat*i0.size):=⟨_,rfl⟩;have hCs:C.size=s.size:=by rw [hC,size_madeCells,hz1];simp
 have hmk:∀ W:World,(Instr.makeSlice 117 (.int .i64 (s.size:Int)) (.int .i64 (s.size:Int))).run Tryz.prog W=.ok (.slice (some ⟨W.heap.size,0,none⟩) s.size s.size) (W.alloc (.cells C 5)):=fun W=>by
  have h:=run_make (P:=Tryz.prog) W 117 5 i0 (.int .u8 0) Tryz.underlying117 hi hz0 .i64 .i64 (s.size:Int) (s.size:Int) (by omega) (by omega) (by rw [hz2];omega) (by omega);rw [← hC] at h
  simpa using h
 clear hC;have hnew:(w.alloc (.cells C 5)).heap[w.heap.size]?=some (.cells C 5 (0,0)):=World.alloc_heap_new w _;have hcp:=Lib.run_copy_row_string (P:=Tryz.prog) (w.alloc (.cells C 5)) 117 9 3 5 w.heap.size 0 s.size s.size s C 5 Tryz.underlying117 hinfo hnew (Nat.le_refl _) (by omega);obtain ⟨Y,hY⟩:∃ Y,Y=(C.toList.take 0++Lib.byteCells s.data.toList++C.toList.drop (0+s.size)).toArray:=⟨_,rfl⟩;rw [← hY] at hcp;have hYl:Y.toList=Lib.byteCells s.data.toList:=by
  rw [hY,List.toList_toArray,List.take_zero,List.nil_append,List.drop_of_length_le (by rw [Array.length_toList];omega),List.append_nil]
 have hYs:Y.size=s.size:=by rw [← Array.length_toList,hYl,Lib.byteCells_length];simp
 have hgY:((w.alloc (.cells C 5)).setRow w.heap.size Y).heap[w.heap.size]?=some (.cells Y 5 (0,0)):=setRow_heap _ _ C _ 5 (0,0) hnew;have hne:s.data.toList≠[]:=fun e=>h0 (by have:=congrArg List.length e;simpa using this);have hsl:s.data.toList.length=s.size:=by simp
 have hUS:=Lib.run_unsafeString_row (P:=Tryz.prog) ((w.alloc (.cells C 5)).setRow w.heap.size Y) 244 3 9 5 Tryz.underlying244 hco w.heap.size Y.size (by unfold World.shape?;rw [hgY]) s.data.toList hne (by omega) (by omega)
  (fun j x hx=>Lib.cells_of_row hgY Y.size j _ (by rw [List.take_of_length_le (by rw [Array.length_toList];exact Nat.le_refl _),hYl];simp [Lib.byteCells,hx]))
 rw [hsl] at hUS
 change _=Result.ok (Value.string s) _ at hUS
 clear hY hsl;have hpos:((s.size:Int) == 0)=false:=beq_eq_false_iff_ne.2 (by omega);have hp0:0<(s.size:Int):=by omega
 go_enter Tryz.func189,Tryz.ntmps189
 go_wp2;go_ret;have hb1:Below w.heap.size w (w.alloc (.cells C 5)):=(Below.refl _ w).alloc (Nat.le_refl _) _;have hb2:Below w.heap.size (w.alloc (.cells C 5)) ((w.alloc (.cells C 5)).setRow w.heap.size Y):=⟨rfl,rfl,rfl,by simp,fun k hk=>setRow_other _ _ _ _ (by omega)⟩;exact ⟨rfl,Lib.below_freeze (hb1.trans hb2) (p:=⟨w.heap.size,0,none⟩) (Nat.le_refl _) _⟩
theorem clone_any (s:ByteArray) (w:World) (hs:s.size≤140737488351232) :
  Calls Tryz.prog 169 #[.string s] w fun e w'=>e=.returned (.string s)∧Below w.heap.size w w':=by
 have H:Hid (∀ w,Calls Tryz.prog 189 #[.string s] w fun e w'=>e=.returned (.string s)∧Below w.heap.size w w'):=fun w=>sclone_any s w hs;clear hs
 go_enter Tryz.func169,Tryz.ntmps169
 go_wp2_with fail;refine (H.out _).mono ?_;rintro e w1 ⟨rfl,b⟩;go_wp2;go_ret;exact ⟨rfl,b⟩
def rdNum (c:Bool) (s:ByteArray) (m:Nat) (σ:(Nat × Bool)):Int × (Nat × Bool):=if (c && σ.2)=true∨s.size<σ.1+m then (0,(σ.1,true)) else (getN s σ.1 m,(σ.1+m,σ.2))
def ZaH (c:Bool) (s:ByteArray) (n:Nat) (σ:(Nat × Bool)):ByteArray × (Nat × Bool):=if (c && σ.2)=true∨s.size<σ.1+n then (⟨#[]⟩,(σ.1,true)) else (s.extract σ.1 (σ.1+n),(σ.1+n,σ.2))
def Zaf (c:Bool) (s:ByteArray) (σ:(Nat × Bool)):ByteArray × (Nat × Bool):=ZaH c s (rdNum c s 1 σ).1.toNat (rdNum c s 1 σ).2
def rdExp (c:Bool) (s:ByteArray) (σ:(Nat × Bool)):Exp × (Nat × Bool):=
 let n:=Zaf c s σ
 let a:=rdNum c s 2 n.2
 (⟨n.1,a.1⟩,a.2)
def rdImp (c:Bool) (s:ByteArray) (σ:(Nat × Bool)):Imp × (Nat × Bool):=
 let m:=Zaf c s σ
 let n:=Zaf c s m.2
 let a:=rdNum c s 1 n.2
 let b:=rdNum c s 1 a.2
 (⟨m.1,n.1,a.1,b.1⟩,b.2)
def rdPat (c:Bool) (s:ByteArray) (σ:(Nat × Bool)):Pat × (Nat × Bool):=
 let k:=rdNum c s 1 σ
 let a:=rdNum c s 2 k.2
 let y:=rdNum c s 1 a.2
 let d:=rdNum c s 2 y.2
 (⟨k.1,a.1,y.1-1,d.1⟩,d.2)
def rdStep {α:Type} (f:(Nat × Bool)→α × (Nat × Bool)) (p:List α × (Nat × Bool)):List α × (Nat × Bool):=if p.2.2=true then p else (p.1++[(f p.2).1],(f p.2).2)
def ZaR {α:Type} (f:(Nat × Bool)→α × (Nat × Bool)):Nat→List α × (Nat × Bool)→List α × (Nat × Bool)
 | 0,p=>p
 | k+1,p=>rdStep f (ZaR f k p)
def Zbw {α:Type} (c:Bool) (s:ByteArray) (f:(Nat × Bool)→α × (Nat × Bool)) (σ:(Nat × Bool)):List α × (Nat × Bool):=ZaR f (rdNum c s 1 σ).1.toNat ([],(rdNum c s 1 σ).2)
def rdMod (c:Bool) (s:ByteArray) (σ:(Nat × Bool)):Mod × (Nat × Bool):=
 let n:=Zaf c s σ
 let a:=rdNum c s 1 n.2
 let b:=rdNum c s 1 a.2
 let l:=rdNum c s 2 b.2
 let t:=ZaH c s l.1.toNat l.2
 let e:=Zbw c s (rdExp c s) t.2
 let i:=Zbw c s (rdImp c s) e.2
 let p:=Zbw c s (rdPat c s) i.2
 (⟨n.1,a.1,b.1,t.1,e.1,i.1,p.1⟩,p.2)
theorem rdTimes_stop {α:Type} (f:(Nat × Bool)→α × (Nat × Bool)) (p:List α × (Nat × Bool)) (k:Nat) (h:(ZaR f k p).2.2=true):∀ n,k≤n→ZaR f n p=ZaR f k p:=by
 intro n hn;obtain ⟨j,rfl⟩:=Nat.exists_eq_add_of_le hn;clear hn
 induction j with
 | zero=>rfl
 | succ j ih=>
  show rdStep f (ZaR f (k+j) p)=_
  rw [ih,rdStep,if_pos h]
theorem rdTimes_next {α:Type} (f:(Nat × Bool)→α × (Nat × Bool)) (p:List α × (Nat × Bool)) (k:Nat) (h:(ZaR f k p).2.2=false):ZaR f (k+1) p=((ZaR f k p).1++[(f (ZaR f k p).2).1],(f (ZaR f k p).2).2):=by
 show rdStep f (ZaR f k p)=_
 rw [rdStep,if_neg (by rw [h];simp)]
theorem rdTimes_length {α:Type} (f:(Nat × Bool)→α × (Nat × Bool)) (p:List α × (Nat × Bool)):∀ k,(ZaR f k p).1.length≤p.1.length+k
 | 0=>by simp [ZaR]
 | k+1=>by
  have ih:=rdTimes_length f p k
  show (rdStep f (ZaR f k p)).1.length≤_
  unfold rdStep
  split
  ·omega
  ·simp;omega
theorem ZaU (c:Bool) (s:ByteArray) (m:Nat) (σ:(Nat × Bool)) (h:σ.1≤s.size):(rdNum c s m σ).2.1≤s.size:=by
 unfold rdNum;split <;> simp_all
theorem rdPiece_le (c:Bool) (s:ByteArray) (m:Nat) (σ:(Nat × Bool)) (h:σ.1≤s.size):(ZaH c s m σ).2.1≤s.size:=by
 unfold ZaH;split <;> simp_all
theorem ZbG (c:Bool) (s:ByteArray) (σ:(Nat × Bool)) (h:σ.1≤s.size):(Zaf c s σ).2.1≤s.size:=rdPiece_le _ _ _ _ (ZaU _ _ _ _ h)
theorem rdExp_le (c:Bool) (s:ByteArray) (σ:(Nat × Bool)) (h:σ.1≤s.size):(rdExp c s σ).2.1≤s.size:=ZaU _ _ _ _ (ZbG _ _ _ h)
theorem rdImp_le (c:Bool) (s:ByteArray) (σ:(Nat × Bool)) (h:σ.1≤s.size):(rdImp c s σ).2.1≤s.size:=ZaU _ _ _ _ (ZaU _ _ _ _ (ZbG _ _ _ (ZbG _ _ _ h)))
theorem rdPat_le (c:Bool) (s:ByteArray) (σ:(Nat × Bool)) (h:σ.1≤s.size):(rdPat c s σ).2.1≤s.size:=ZaU _ _ _ _ (ZaU _ _ _ _ (ZaU _ _ _ _ (ZaU _ _ _ _ h)))
theorem rdTimes_le {α:Type} (s:ByteArray) (f:(Nat × Bool)→α × (Nat × Bool)) (hf:∀ σ:(Nat × Bool),σ.1≤s.size→(f σ).2.1≤s.size) (p:List α × (Nat × Bool)) (h:p.2.1≤s.size):∀ k,(ZaR f k p).2.1≤s.size
 | 0=>h
 | k+1=>by
  show (rdStep f (ZaR f k p)).2.1≤_
  unfold rdStep
  split
  ·exact rdTimes_le s f hf p h k
  ·exact hf _ (rdTimes_le s f hf p h k)
theorem rdMany_le {α:Type} (c:Bool) (s:ByteArray) (f:(Nat × Bool)→α × (Nat × Bool)) (hf:∀ σ:(Nat × Bool),σ.1≤s.size→(f σ).2.1≤s.size) (σ:(Nat × Bool)) (h:σ.1≤s.size):(Zbw c s f σ).2.1≤s.size:=
 rdTimes_le s f hf _ (ZaU _ _ _ _ h) _
theorem rdNum_bd (c:Bool) (s:ByteArray) (m:Nat) (σ:(Nat × Bool)):0≤(rdNum c s m σ).1∧(rdNum c s m σ).1<256 ^ m:=by
 unfold rdNum
 split
 ·exact ⟨Int.le_refl _,Int.pow_pos (by decide)⟩
 ·exact getN_bd s σ.1 m
theorem rdPiece_size (c:Bool) (s:ByteArray) (n:Nat) (σ:(Nat × Bool)):(ZaH c s n σ).1.size≤n:=by
 unfold ZaH
 split
 ·exact Nat.zero_le _
 ·rw [ByteArray.size_extract];omega
theorem rdName_size (c:Bool) (s:ByteArray) (σ:(Nat × Bool)):(Zaf c s σ).1.size≤255:=by
 have h1:=rdPiece_size c s (rdNum c s 1 σ).1.toNat (rdNum c s 1 σ).2;have h2:=rdNum_bd c s 1 σ
 show (ZaH c s (rdNum c s 1 σ).1.toNat (rdNum c s 1 σ).2).1.size≤255
 omega
def RdAt (t:TypeId) (W:World) (R:Nat) (s:ByteArray) (σ:(Nat × Bool)):Prop:=Za W R t #[.string s,.int .i64 σ.1,.bool σ.2]
theorem RdAt.parts {t:TypeId} {W:World} {R:Nat} {s:ByteArray} {σ:(Nat × Bool)} (h:RdAt t W R s σ):W.cell? ⟨R,0,none⟩=some (.string s)∧W.cell? ⟨R,1,none⟩=some (.int .i64 σ.1)∧W.cell? ⟨R,2,none⟩=some (.bool σ.2)∧W.frozen? ⟨R,1,none⟩=false∧W.frozen? ⟨R,2,none⟩=false:=
 ⟨h.cell 0,h.cell 1,h.cell 2,h.frozen 1,h.frozen 2⟩
theorem RdAt.setAt {t:TypeId} {W:World} {R:Nat} {s:ByteArray} {σ:(Nat × Bool)} (h:RdAt t W R s σ) (a:Nat):RdAt t (W.setCell ⟨R,1,none⟩ (.int .i64 a)) R s (a,σ.2):=Za.set 1 _ h
theorem RdAt.setShort {t:TypeId} {W:World} {R:Nat} {s:ByteArray} {σ:(Nat × Bool)} (h:RdAt t W R s σ):RdAt t (W.setCell ⟨R,2,none⟩ (.bool true)) R s (σ.1,true):=Za.set 2 _ h
end Go.Proofs.YtlpnfbpgnfappaaGreat
namespace Go.Proofs.YtlpnfbpgnfappaaGreat
open Go.RowKit Go.PlainAid Go.Lib
theorem number_any (R:Nat) (s:ByteArray) (σ:(Nat × Bool)) (m:Nat) (hm:m=1∨m=2) (w:World) (h:RdAt 124 w R s σ) (hs:s.size≤140737488351232) (ha:σ.1≤s.size) (M:Value) (hM:M=.int .i64 m) :
  Calls Tryz.prog 132 #[.pointer (some ⟨R,0,none⟩),M] w fun e w'=>e=.returned (.int .i64 (rdNum false s m σ).1)∧RdAt 124 w' R s (rdNum false s m σ).2∧w.grownBy w' (some R):=by
 subst hM;have hlt:=Za.lt h;have H0:Hid (RdAt 124 w R s σ):=h;have HG:Hid (∀ w,Calls Tryz.prog 168 #[.string s,.int .i64 σ.1,.int .i64 m] w fun e w'=>e=.returned (.tuple #[.int .i64 (getR s σ.1 m),.int .i64 (ZaZ s.size σ.1 m)])∧Below w.heap.size w w'):=fun w=>get_any s σ.1 m w hs;obtain ⟨c0,c1,c2,f1,f2⟩:=h.parts;have g0:=cell_regrown c0;have g1:=cell_regrown c1;clear h
 by_cases hc:σ.1+m≤s.size
 ·have hW:ZaZ s.size σ.1 m=0:=by
   unfold ZaZ;rw [if_neg (by omega),if_neg (by omega)]
  have HV:Hid ((rdNum false s m σ).1=getR s σ.1 m):=by
   show (rdNum false s m σ).1=_
   unfold rdNum getR;rw [if_pos hW,if_neg (by simp;omega)];simp
  have HS:Hid ((rdNum false s m σ).2=(σ.1+m,σ.2)):=by
   show (rdNum false s m σ).2=_
   unfold rdNum;rw [if_neg (by simp;omega)]
  rw [hW] at HG;have i1:wrap64 ((σ.1:Int)+m)=((σ.1+m:Nat):Int):=by unfold wrap64;omega
  clear hm hW;generalize getR s σ.1 m=G at *
  go_enter Tryz.func132,Tryz.ntmps132
  go_wp2;refine wp_region_quiet_below (by kernel_rfl) (by kernel_rfl) ?_
  repeat (quiet_step ((go_at_call 168;go_must (exact Calls.regrown_of (HG.out _)))))
  refine wpQuiet_nil ?_;intro w2 hw';obtain ⟨⟨dq,osq⟩,hw''⟩:=hw';have B2:Below w.heap.size w w2:=by rw [hw''];exact below_regrown w dq osq
  clear hw'';have h2:RdAt 124 w2 R s σ:=Za.below H0.out B2 hlt;obtain ⟨d0,d1,d2,k1,k2⟩:=h2.parts;have H2:Hid (RdAt 124 w2 R s σ):=h2;clear h2;go_wp2;go_ret;refine ⟨by rw [HV.out];rfl,?_,?_⟩
  ·rw [HS.out]
   have:=H2.out.setAt (σ.1+m)
   rw [Int.natCast_add] at this;exact this
  ·exact (ZaT B2).but (some R) |>.trans (Zai _ _ _ _)
 ·obtain ⟨E,hE,hE0⟩:∃ E,ZaZ s.size σ.1 m=E∧(E != 0)=true:=⟨_,rfl,by
   unfold ZaZ;rw [if_neg (by omega),if_pos (by omega)];rfl⟩
  have HV:Hid ((rdNum false s m σ).1=0):=by
   show (rdNum false s m σ).1=_
   unfold rdNum;rw [if_pos (by simp;omega)]
  have HS:Hid ((rdNum false s m σ).2=(σ.1,true)):=by
   show (rdNum false s m σ).2=_
   unfold rdNum;rw [if_pos (by simp;omega)]
  rw [hE] at HG;clear hm hE;generalize getR s σ.1 m=G at *
  go_enter Tryz.func132,Tryz.ntmps132
  go_wp2;refine wp_region_quiet_below (by kernel_rfl) (by kernel_rfl) ?_
  repeat (quiet_step ((go_at_call 168;go_must (exact Calls.regrown_of (HG.out _)))))
  refine wpQuiet_nil ?_;intro w2 hw';obtain ⟨⟨dq,osq⟩,hw''⟩:=hw';have B2:Below w.heap.size w w2:=by rw [hw''];exact below_regrown w dq osq
  clear hw'';have h2:RdAt 124 w2 R s σ:=Za.below H0.out B2 hlt;obtain ⟨d0,d1,d2,k1,k2⟩:=h2.parts;have H2:Hid (RdAt 124 w2 R s σ):=h2;clear h2;go_wp2;go_ret;refine ⟨by rw [HV.out];rfl,?_,?_⟩
  ·rw [HS.out]
   exact H2.out.setShort
  ·exact (ZaT B2).but (some R) |>.trans (Zai _ _ _ _)
theorem piece_any (R:Nat) (s:ByteArray) (σ:(Nat × Bool)) (n:Nat) (hn:n≤100000) (w:World) (h:RdAt 124 w R s σ) (hs:s.size≤140737488351232) (ha:σ.1≤s.size) :
  Calls Tryz.prog 133 #[.pointer (some ⟨R,0,none⟩),.int .i64 n] w fun e w'=>e=.returned (.string (ZaH false s n σ).1)∧RdAt 124 w' R s (ZaH false s n σ).2∧w.grownBy w' (some R):=by
 have hlt:=Za.lt h;have H0:Hid (RdAt 124 w R s σ):=h;have HS0:Hid (s.size≤140737488351232):=hs;obtain ⟨c0,c1,c2,f1,f2⟩:=h.parts;have i2:wrap64 ((s.size:Int)-σ.1)=(s.size:Int)-σ.1:=by unfold wrap64;omega
 have i2':IntKind.i64.wrap ((s.size:Int)-σ.1)=(s.size:Int)-σ.1:=by rw [i64_is];unfold wrap64;omega
 by_cases hc:σ.1+n≤s.size
 ·obtain ⟨b,Eb⟩:∃ b,Hid (b=σ.1+n):=⟨_,rfl⟩
  have hb1:σ.1≤b:=by rw [Eb.out];omega
  have hb2:b≤s.size:=by rw [Eb.out];omega
  have HV:Hid ((ZaH false s n σ).1=s.extract σ.1 b):=by
   show (ZaH false s n σ).1=_
   rw [Eb.out];unfold ZaH;rw [if_neg (by simp;omega)]
  have HS:Hid ((ZaH false s n σ).2=(b,σ.2)):=by
   show (ZaH false s n σ).2=_
   rw [Eb.out];unfold ZaH;rw [if_neg (by simp;omega)]
  have HC:Hid (∀ w,Calls Tryz.prog 169 #[.string (s.extract σ.1 b)] w fun e w'=>e=.returned (.string (s.extract σ.1 b))∧Below w.heap.size w w'):=fun w=>clone_any _ w (by rw [ByteArray.size_extract];omega);have i1:wrap64 ((σ.1:Int)+n)=(b:Int):=by rw [Eb.out];unfold wrap64;omega
  have i1':IntKind.i64.wrap ((σ.1:Int)+n)=(b:Int):=by rw [i64_is];exact i1
  have dg:decide (((s.size:Int)-σ.1)<n)=false:=decide_eq_false (by omega);clear h hs ha hn hc
  go_enter Tryz.func133,Tryz.ntmps133
  go_wp2
  go_quiet (fail)
  go_wp2;have B1:Below w.heap.size w (w.drewN nq):=below_drewN (Below.refl _ _) nq;generalize w.drewN nq=w1 at B1 ⊢;have h1:RdAt 124 w1 R s σ:=Za.below H0.out B1 hlt;obtain ⟨e0,e1,e2,l1,l2⟩:=h1.parts;have g0:=cell_regrown e0;have g1:=cell_regrown e1;have H1:Hid (RdAt 124 w1 R s σ):=h1;clear h1 c0 c1 c2 f1 f2;refine wp_region_quiet_below (by kernel_rfl) (by kernel_rfl) ?_
  repeat (quiet_step ((go_at_call 169;go_must (exact Calls.regrown_of (HC.out _)))))
  refine wpQuiet_nil ?_;intro w2 hw';obtain ⟨⟨dq,osq⟩,hw''⟩:=hw';have B2:Below w1.heap.size w1 w2:=by rw [hw''];exact below_regrown w1 dq osq
  clear hw'';have h2:RdAt 124 w2 R s σ:=Za.below H1.out B2 (Za.lt H1.out);obtain ⟨d0,d1,d2,k1,k2⟩:=h2.parts;have H2:Hid (RdAt 124 w2 R s σ):=h2;clear h2 e0 e1 e2 l1 l2 g0 g1;go_wp2;go_ret;refine ⟨by rw [HV.out];rfl,?_,?_⟩
  ·rw [HS.out]
   exact H2.out.setAt b
  ·exact (ZaT (B1.trans (B2.mono B1.size))).but (some R) |>.trans (Zai _ _ _ _)
 ·have HV:Hid ((ZaH false s n σ).1=⟨#[]⟩):=by
   show (ZaH false s n σ).1=_
   unfold ZaH;rw [if_pos (by simp;omega)]
  have HS:Hid ((ZaH false s n σ).2=(σ.1,true)):=by
   show (ZaH false s n σ).2=_
   unfold ZaH;rw [if_pos (by simp;omega)]
  have dg:decide (((s.size:Int)-σ.1)<n)=true:=decide_eq_true (by omega);clear h
  go_enter Tryz.func133,Tryz.ntmps133
  go_wp2
  go_quiet (fail)
  have B1:Below w.heap.size w (w.drewN nq):=below_drewN (Below.refl _ _) nq;generalize w.drewN nq=w1 at B1 ⊢;have h1:RdAt 124 w1 R s σ:=Za.below H0.out B1 hlt;obtain ⟨e0,e1,e2,l1,l2⟩:=h1.parts;have H1:Hid (RdAt 124 w1 R s σ):=h1;clear h1 c0 c1 c2 f1 f2;go_wp2;go_ret;refine ⟨by rw [HV.out];rfl,?_,?_⟩
  ·rw [HS.out]
   exact H1.out.setShort
  ·exact (ZaT B1).but (some R) |>.trans (Zai _ _ _ _)
theorem name_any (R:Nat) (s:ByteArray) (σ:(Nat × Bool)) (w:World) (h:RdAt 124 w R s σ) (hs:s.size≤140737488351232) (ha:σ.1≤s.size) :
  Calls Tryz.prog 131 #[.pointer (some ⟨R,0,none⟩)] w fun e w'=>e=.returned (.string (Zaf false s σ).1)∧RdAt 124 w' R s (Zaf false s σ).2∧w.grownBy w' (some R):=by
 have H1:Hid (∀ w,RdAt 124 w R s σ→Calls Tryz.prog 132 #[.pointer (some ⟨R,0,none⟩),.int .i64 1] w fun e w'=>e=.returned (.int .i64 (rdNum false s 1 σ).1)∧RdAt 124 w' R s (rdNum false s 1 σ).2∧w.grownBy w' (some R)):=fun w h=>number_any R s σ 1 (.inl rfl) w h hs ha _ rfl;have H2:Hid (∀ w,RdAt 124 w R s (rdNum false s 1 σ).2→Calls Tryz.prog 133 #[.pointer (some ⟨R,0,none⟩),.int .i64 (rdNum false s 1 σ).1] w fun e w'=>e=.returned (.string (Zaf false s σ).1)∧RdAt 124 w' R s (Zaf false s σ).2∧w.grownBy w' (some R)):=by
  intro w h;have hb:=rdNum_bd false s 1 σ
  have:=piece_any R s _ (rdNum false s 1 σ).1.toNat (by omega) w h hs (ZaU _ _ _ _ ha)
  rw [Int.toNat_of_nonneg hb.1] at this;exact this
 generalize (rdNum false s 1 σ).1=N at *;generalize (rdNum false s 1 σ).2=σ1 at *;generalize (Zaf false s σ).1=T at *;generalize (Zaf false s σ).2=σ2 at *;clear hs ha
 go_enter Tryz.func131,Tryz.ntmps131
 go_wp2_with fail;refine (H1.out _ h).mono ?_;rintro e w1 ⟨rfl,h1,k1⟩;go_wp2_with fail;refine (H2.out _ h1).mono ?_;rintro e w2 ⟨rfl,h2,k2⟩;go_wp2;go_ret;exact ⟨rfl,h2,k1.trans k2⟩
theorem times_any {α:Type} (R:Nat) (s:ByteArray) (σ:(Nat × Bool)) (K:FuncId) (caps:Array Value) (hK:∀ w,Sem.run Tryz.prog (callFunc K caps) w=.ok (.enter K caps) w) (rd:(Nat × Bool)→α × (Nat × Bool)) (Inv:World→List α→(Nat × Bool)→Prop)
  (hrd:∀ W l τ,Inv W l τ→RdAt 124 W R s τ) (hle:∀ τ:(Nat × Bool),τ.1≤s.size→(rd τ).2.1≤s.size)
  (hstep:∀ W l τ,l.length<255→τ.1≤s.size→Inv W l τ→Calls Tryz.prog K caps W fun e W'=>e=.returned (.tuple #[])∧Inv W' (l++[(rd τ).1]) (rd τ).2)
  (w:World) (h:RdAt 124 w R s σ) (h0:∀ W,w.grownBy W (some R)→RdAt 124 W R s (rdNum false s 1 σ).2→Inv W [] (rdNum false s 1 σ).2)
  (hs:s.size≤140737488351232) (ha:σ.1≤s.size) :
  Calls Tryz.prog 134 #[.pointer (some ⟨R,0,none⟩),.func (.func K) #[] caps] w fun e w'=>e=.returned (.tuple #[])∧Inv w' (Zbw false s rd σ).1 (Zbw false s rd σ).2:=by
 have H1:Hid (∀ w,RdAt 124 w R s σ→Calls Tryz.prog 132 #[.pointer (some ⟨R,0,none⟩),.int .i64 1] w fun e w'=>e=.returned (.int .i64 (rdNum false s 1 σ).1)∧RdAt 124 w' R s (rdNum false s 1 σ).2∧w.grownBy w' (some R)):=fun w h=>number_any R s σ 1 (.inl rfl) w h hs ha _ rfl;have hb:=rdNum_bd false s 1 σ;have hl1:=ZaU false s 1 σ ha;have EM:Hid (Zbw false s rd σ=ZaR rd (rdNum false s 1 σ).1.toNat ([],(rdNum false s 1 σ).2)):=rfl;obtain ⟨n,En⟩:∃ n:Nat,(rdNum false s 1 σ).1=n:=⟨(rdNum false s 1 σ).1.toNat,by omega⟩;rw [En] at hb EM H1;rw [Int.toNat_natCast] at EM;have hn:n<256:=by omega
 clear En hb;generalize (rdNum false s 1 σ).2=σ1 at *;generalize Zbw false s rd σ=MM at *;have HLE:Hid (∀ k,(ZaR rd k ([],σ1)).2.1≤s.size):=rdTimes_le s rd hle _ hl1;have HLN:Hid (∀ k,(ZaR rd k ([],σ1)).1.length≤k):=fun k=>by simpa using rdTimes_length rd ([],σ1) k
 have HST:Hid (∀ W l τ,l.length<255→τ.1≤s.size→Inv W l τ→Calls Tryz.prog K caps W fun e W'=>e=.returned (.tuple #[])∧Inv W' (l++[(rd τ).1]) (rd τ).2):=hstep;clear hs ha hl1 hle hstep
 go_enter Tryz.func134,Tryz.ntmps134
 go_wp2_with fail;refine (H1.out _ h).mono ?_;rintro e w1 ⟨rfl,h1,k1⟩;have I1:=h0 _ k1 h1;clear h0 H1 h1 k1;go_wp2
 go_loopw [6] (fun i wr=>∃ k:Nat,k≤n∧i=.int .i64 k∧Hid (Inv wr (ZaR rd k ([],σ1)).1 (ZaR rd k ([],σ1)).2)) (fun i _=>n-(intOf i).toNat)
 case atStart=>exact ⟨0,Nat.zero_le _,rfl,I1⟩
 case round=>
  obtain ⟨k,hk,rfl,hI⟩:=hrel
  by_cases hlt:k<n
  ·obtain ⟨c0,c1,c2,f1,f2⟩:=(hrd _ _ _ hI.out).parts
   by_cases hsh:(ZaR rd k ([],σ1)).2.2=true
   ·have HE:Hid (MM=ZaR rd k ([],σ1)):=by
     show MM=_
     rw [EM.out];exact rdTimes_stop rd _ k hsh n hk
    rw [hsh] at c2;go_wp2;refine bodyPost_ret (results_none rfl _ _ _) rfl ?_;exact ⟨rfl,by rw [HE.out];exact hI.out⟩
   ·have hsf:(ZaR rd k ([],σ1)).2.2=false:=by simpa using hsh
    have HE:Hid (ZaR rd (k+1) ([],σ1)=_):=rdTimes_next rd _ k hsf;have HC:=HST.out _ _ _ (by have:=HLN.out k;omega) (HLE.out k) hI.out;rw [hsf] at c2;go_wp2_with fail;refine Calls.mono HC ?_;rintro e w2 ⟨rfl,hI2⟩;have HI2:Hid (Inv w2 (ZaR rd (k+1) ([],σ1)).1 (ZaR rd (k+1) ([],σ1)).2):=by
     show Inv w2 _ _
     rw [HE.out];exact hI2
    clear hI2 HE;go_wp2;exact ⟨⟨k+1,by omega,by go_num,HI2⟩,by simp [intOf];omega⟩
  ·obtain rfl:k=n:=by omega
   have HI2:Hid (Inv wr MM.1 MM.2):=by rw [EM.out];exact hI
   go_wp2
   go_end0
   exact ⟨rfl,HI2.out⟩
end Go.Proofs.YtlpnfbpgnfappaaGreat
