/- Texts that are laid together. -/
import Derived.Test.YtppmihnbpmkbnadGreatMrgP
import Derived.Test.YtppmihnbpmkbnadGreatMrgT
import Derived.Test.YtppmihnbpmkbnadGreatMrgB
import Derived.ProofKit
import Derived.OpenShut
import Derived.ShutString
import Derived.ChangeOld
import Derived.SizedLaws
import Derived.Below
import Derived.Carry
import Derived.Deep.Slices
import Derived.Test.YtppmihnbpmkbnadGreatMrgC
import Derived.Test.YtppmihnbpmkbnadGreatMrgD

/- The walk of the law RegistryTells: it returns true. -/
namespace Go.Proofs.YtppmihnbpmkbnadGreat.registryTells
open Go.RowKit Go.PlainAid Go.Lib

set_option maxRecDepth 100000

theorem ix_idx (p : PV → Bool) : ∀ (q : List PV) (k : Nat), idxFrom p k q = ixFrom p k q := by
  intro q
  induction q with
  | nil => intro k; rfl
  | cons x q ih =>
    intro k
    show (if _ then _ else _) = (if _ then _ else _)
    rw [ih]
theorem rgFind_len (K : Ker) (l : List PV) (name : ByteArray) : (rgFind K (l.map PV.plc) name).1.mod.exps.length ≤ 255 ∧ (rgFind K (l.map PV.plc) name).1.mod.imps.length ≤ 255 ∧ (rgFind K (l.map PV.plc) name).1.mod.pats.length ≤ 255 := by
  rcases rgFind_cases K l name with ⟨_, e⟩ | ⟨_, _, e⟩ | ⟨h0, j, x, hx, _, e⟩
  · rw [e]; simp [zeroP]
  · rw [e]; simp [zeroP]
  · rw [e]
    have := chkMod_exps (link_at (chkRg_zero h0).1 (List.mem_of_getElem? hx)).1
    exact ⟨by show x.mod.exps.length ≤ 255; omega, by show x.mod.imps.length ≤ 255; omega, by show x.mod.pats.length ≤ 255; omega⟩

theorem zero_isMod (n : Nat) (W : World) : IsMod n W (.agg #[.string ⟨#[]⟩, .int .i64 0, .int .i64 0, .string ⟨#[]⟩, .slice none 0 0, .slice none 0 0, .slice none 0 0]) ⟨⟨#[]⟩, 0, 0, ⟨#[]⟩, [], [], []⟩ :=
  ⟨.slice none 0 0, .slice none 0 0, .slice none 0 0, rfl, ⟨none, 0, rfl, by simp, .inl rfl⟩, ⟨none, 0, rfl, by simp, .inl rfl⟩, ⟨none, 0, rfl, by simp, .inl rfl⟩⟩

set_option maxHeartbeats 16000000 in
theorem walk (K : Ker) (l : List PV) (v : Value) (name : ByteArray) (w : World) (h : IsReg w.heap.size w v K l) (hf : K.fits) (hfit : ∀ x ∈ l, x.mod.fits) (_ : name.size ≤ 140737488351232) :
    Calls Tryz.prog 6 #[v, .string name] w fun e w' => e = .returned (.bool true) ∧ Below w.heap.size w w' := by
  have HF : Hid (∀ W, Below w.heap.size w W → Calls Tryz.prog 17 #[v, .string name] W fun e w' => (∃ y : PV, e = .returned (.tuple #[y.val, .int .i64 (rgFind K (l.map PV.plc) name).2]) ∧ y.plc = (rgFind K (l.map PV.plc) name).1 ∧ PlcAt w'.heap.size w' y) ∧ Below W.heap.size W w') := fun W hb => by
    refine (regFind_any K l v name W ((h.below hb).more hb.size) hf hfit).mono ?_
    rintro e w' ⟨⟨y, e1, hy, hO⟩, hb'⟩
    obtain ⟨l1, l2, l3⟩ := rgFind_len K l name
    rw [← hy] at l1 l2 l3
    exact ⟨⟨y, e1, hy, hO.plcAt l1 l2 l3⟩, hb'⟩
  have HCR' : Hid (∀ W, Below w.heap.size w W → Calls Tryz.prog 18 #[v] W fun e w' => e = .returned (.int .i64 (chkRg K (l.map PV.plc))) ∧ Below W.heap.size W w') := fun W hb => checkRegistry_any K l v W ((h.below hb).more hb.size) hf hfit
  have HCK : Hid (∀ W, Below w.heap.size w W → Calls Tryz.prog 20 #[v] W fun e w' => e = .returned (.int .i64 (chkRg K (l.map PV.plc))) ∧ Below W.heap.size W w') := fun W hb => regCheck_any K l v W ((h.below hb).more hb.size) hf hfit
  obtain ⟨ve, vl, rfl, hE, hrow⟩ := h
  have HP : Hid (∀ W, Below w.heap.size w W → Calls Tryz.prog 12 #[vl, .string name] W fun e w' => e = .returned (.int .i64 (ixFrom (fun x : PV => x.mod.name == name) 0 l)) ∧ Below W.heap.size W w') := fun W hb => by
    have := placeOf_any l vl name W ((hrow.1.below hb).more hb.size)
    rw [ix_idx] at this
    exact this
  have HAT : Hid (∀ x ∈ l, ∀ W, Below w.heap.size w W → PlcAt W.heap.size W x) := fun x hx W hb => ((hrow.2 x hx).below hb).more hb.size
  have key := rgFind_cases K l name
  obtain ⟨qe, je, rfl, _, _⟩ := hE
  obtain ⟨⟨a, cap, rfl, hmax, hrow⟩, _⟩ := hrow
  generalize rgFind K (l.map PV.plc) name = R at *
  generalize chkRg K (l.map PV.plc) = cr at *
  generalize ixFrom (fun x : PV => x.mod.name == name) 0 l = ix at *
  obtain ⟨ma, mi, ks⟩ := K
  obtain ⟨Rp, Re⟩ := R
  dsimp only at *
  clear hf hfit
  generalize ks.length = lk at *
  have BB : Below w.heap.size w (w.alloc (.cells #[.int .i64 ma, .int .i64 mi, .slice qe lk je, .slice a l.length cap] 48)) := (Below.refl _ _).alloc (Nat.le_refl _) _
  have CR : CellsAt (w.alloc (.cells #[.int .i64 ma, .int .i64 mi, .slice qe lk je, .slice a l.length cap] 48)) w.heap.size 48 #[.int .i64 ma, .int .i64 mi, .slice qe lk je, .slice a l.length cap] := CellsAt.new w 48 #[.int .i64 ma, .int .i64 mi, .slice qe lk je, .slice a l.length cap]
  go_enter Tryz.func6, Tryz.ntmps6
  go_wp2_with fail
  refine (HF.out _ BB).mono ?_
  rintro e w2 ⟨⟨y, rfl, hy, hat⟩, b⟩
  replace CR := CellsAt.below CR b (CellsAt.lt CR)
  replace BB := BB.trans (b.mono BB.size)
  clear b HF
  have HI1 : Hid (IsMod w2.heap.size w2 y.modV y.mod) := hat.isMod
  obtain ⟨⟨pe, ke, e4, -⟩, ⟨pi, ki, e5, -⟩, ⟨pp, kp, e6, -⟩⟩ := hat
  obtain ⟨⟨N, xa, xi, T, es, is, ps⟩, ve, vi, vp, fi⟩ := y
  dsimp only [PV.val, PV.modV, PV.plc] at *
  subst e4 e5 e6 hy
  have BB' := BB.alloc BB.size (.cells #[.string N, .int .i64 xa, .int .i64 xi, .string T, .slice pe es.length ke, .slice pi is.length ki, .slice pp ps.length kp, .int .i64 fi] 41)
  have CR' := CellsAt.kept CR (World.grownBy_alloc w2 (.cells #[.string N, .int .i64 xa, .int .i64 xi, .string T, .slice pe es.length ke, .slice pi is.length ki, .slice pp ps.length kp, .int .i64 fi] 41) none) (by simp)
  have CX' := CellsAt.new w2 41 #[.string N, .int .i64 xa, .int .i64 xi, .string T, .slice pe es.length ke, .slice pi is.length ki, .slice pp ps.length kp, .int .i64 fi]
  have b' : Below w2.heap.size w2 (w2.alloc (.cells #[.string N, .int .i64 xa, .int .i64 xi, .string T, .slice pe es.length ke, .slice pi is.length ki, .slice pp ps.length kp, .int .i64 fi] 41)) := (Below.refl _ _).alloc (Nat.le_refl _) _
  have k0 := CellsAt.cell CR' 0
  have k1 := CellsAt.cell CR' 1
  have k2 := CellsAt.cell CR' 2
  have k3 := CellsAt.cell CR' 3
  have hk := CellsAt.lt CR'
  simp at k0 k1 k2 k3
  have HBB : Hid _ := BB'
  have HCR : Hid _ := CR'
  have HCX : Hid _ := CX'
  have HBX : Hid _ := b'
  clear BB CR BB' CR' CX' b'
  go_wp2_with fail
  refine (HCR'.out _ HBB.out).mono ?_
  have BB := HBB.out
  have CR := HCR.out
  have CX := HCX.out
  have BX := HBX.out
  clear HBB HCR HCX HCR' HBX k0 k1 k2 k3 hk
  generalize w2.alloc (.cells #[.string N, .int .i64 xa, .int .i64 xi, .string T, .slice pe es.length ke, .slice pi is.length ki, .slice pp ps.length kp, .int .i64 fi] 41) = w3 at BB CR CX BX ⊢
  generalize w2.heap.size = bx at CX BX HI1 ⊢
  rintro e w4 ⟨rfl, b⟩
  replace CR := CellsAt.below CR b (CellsAt.lt CR)
  replace BX := BX.trans (b.mono (Nat.le_of_lt (CellsAt.lt CX)))
  replace CX := CellsAt.below CX b (CellsAt.lt CX)
  replace BB := BB.trans (b.mono BB.size)
  clear b
  have hk4r := CellsAt.lt CR
  have hk4x := CellsAt.lt CX
  have BB' := BB.alloc BB.size (.cells #[.string ⟨#[]⟩, .int .i64 0, .int .i64 0, .string ⟨#[]⟩, .slice none 0 0, .slice none 0 0, .slice none 0 0, .int .i64 0] 41)
  have CR' := CellsAt.kept CR (World.grownBy_alloc w4 (.cells #[.string ⟨#[]⟩, .int .i64 0, .int .i64 0, .string ⟨#[]⟩, .slice none 0 0, .slice none 0 0, .slice none 0 0, .int .i64 0] 41) none) (by simp)
  have CX' := CellsAt.kept CX (World.grownBy_alloc w4 (.cells #[.string ⟨#[]⟩, .int .i64 0, .int .i64 0, .string ⟨#[]⟩, .slice none 0 0, .slice none 0 0, .slice none 0 0, .int .i64 0] 41) none) (by simp)
  have CW' := CellsAt.new w4 41 #[.string ⟨#[]⟩, .int .i64 0, .int .i64 0, .string ⟨#[]⟩, .slice none 0 0, .slice none 0 0, .slice none 0 0, .int .i64 0]
  have BX' := BX.alloc (Nat.le_of_lt (CellsAt.lt CX)) (.cells #[.string ⟨#[]⟩, .int .i64 0, .int .i64 0, .string ⟨#[]⟩, .slice none 0 0, .slice none 0 0, .slice none 0 0, .int .i64 0] 41)
  have k3 := CellsAt.cell CR' 3
  have hk := CellsAt.lt CR'
  simp at k3
  have HBB : Hid _ := BB'
  have HCR : Hid _ := CR'
  have HCX : Hid _ := CX'
  have HCW : Hid _ := CW'
  have HBX : Hid _ := BX'
  clear BB CR CX BX BB' CR' CX' CW' BX'
  rcases key with ⟨h0, he⟩ | ⟨rfl, rfl, he⟩ | ⟨rfl, j, x, hx, rfl, he⟩
  · obtain ⟨hz, rfl⟩ := Prod.mk.inj he
    unfold zeroP at hz
    injection hz with hz hfi
    injection hz with h1 h2 h3 h4 h5 h6 h7
    subst h1 h2 h3 h4 h5 h6 h7 hfi
    have h0' : (Re == 0) = false := by simpa using h0
    have HI2 : Hid (IsMod (w4.alloc (.cells #[.string ⟨#[]⟩, .int .i64 0, .int .i64 0, .string ⟨#[]⟩, .slice none 0 0, .slice none 0 0, .slice none 0 0, .int .i64 0] 41)).heap.size (w4.alloc (.cells #[.string ⟨#[]⟩, .int .i64 0, .int .i64 0, .string ⟨#[]⟩, .slice none 0 0, .slice none 0 0, .slice none 0 0, .int .i64 0] 41)) (.agg #[.string ⟨#[]⟩, .int .i64 0, .int .i64 0, .string ⟨#[]⟩, .slice none 0 0, .slice none 0 0, .slice none 0 0]) ⟨⟨#[]⟩, 0, 0, ⟨#[]⟩, [], [], []⟩) := zero_isMod _ _
    clear h0 he HP HAT
    try simp only [List.length_nil] at *
    go_wp2_with fail
    refine (registryBegun_any _).mono ?_
    have BB := HBB.out
    have CR := HCR.out
    have CX := HCX.out
    have CW := HCW.out
    have BX := HBX.out
    clear HBB HCR HCX HCW HBX
    generalize w4.alloc (.cells #[.string ⟨#[]⟩, .int .i64 0, .int .i64 0, .string ⟨#[]⟩, .slice none 0 0, .slice none 0 0, .slice none 0 0, .int .i64 0] 41) = w5 at BB CR CX CW BX HI2 ⊢
    generalize w4.heap.size = bw at CW ⊢
    rintro e w6 ⟨rfl, b⟩
    replace CR := CellsAt.below CR b (CellsAt.lt CR)
    replace BX := BX.trans (b.mono (Nat.le_of_lt (CellsAt.lt CX)))
    replace CX := CellsAt.below CX b (CellsAt.lt CX)
    replace CW := CellsAt.below CW b (CellsAt.lt CW)
    replace BB := BB.trans (b.mono BB.size)
    replace HI2 : Hid (IsMod w6.heap.size w6 (.agg #[.string ⟨#[]⟩, .int .i64 0, .int .i64 0, .string ⟨#[]⟩, .slice none 0 0, .slice none 0 0, .slice none 0 0]) ⟨⟨#[]⟩, 0, 0, ⟨#[]⟩, [], [], []⟩) := (IsMod.below HI2.out b).more b.size
    clear b
    have k0 := CellsAt.cell CR 0
    have k1 := CellsAt.cell CR 1
    have k2 := CellsAt.cell CR 2
    have k3 := CellsAt.cell CR 3
    have hk := CellsAt.lt CR
    simp at k0 k1 k2 k3
    go_wp2_with fail
    refine (HCK.out _ BB).mono ?_
    rintro e w7 ⟨rfl, b⟩
    replace BX := BX.trans (b.mono (Nat.le_of_lt (CellsAt.lt CX)))
    replace CX := CellsAt.below CX b (CellsAt.lt CX)
    replace CW := CellsAt.below CW b (CellsAt.lt CW)
    replace BB := BB.trans (b.mono BB.size)
    replace HI2 : Hid (IsMod w7.heap.size w7 (.agg #[.string ⟨#[]⟩, .int .i64 0, .int .i64 0, .string ⟨#[]⟩, .slice none 0 0, .slice none 0 0, .slice none 0 0]) ⟨⟨#[]⟩, 0, 0, ⟨#[]⟩, [], [], []⟩) := (IsMod.below HI2.out b).more b.size
    clear b k0 k1 k2 k3 hk HCK
    have x0 := CellsAt.cell CX 0
    have x1 := CellsAt.cell CX 1
    have x2 := CellsAt.cell CX 2
    have x3 := CellsAt.cell CX 3
    have x4 := CellsAt.cell CX 4
    have x5 := CellsAt.cell CX 5
    have x6 := CellsAt.cell CX 6
    have x7 := CellsAt.cell CX 7
    have hx := CellsAt.lt CX
    simp at x0 x1 x2 x3 x4 x5 x6 x7
    have y0 := CellsAt.cell CW 0
    have y1 := CellsAt.cell CW 1
    have y2 := CellsAt.cell CW 2
    have y3 := CellsAt.cell CW 3
    have y4 := CellsAt.cell CW 4
    have y5 := CellsAt.cell CW 5
    have y6 := CellsAt.cell CW 6
    have y7 := CellsAt.cell CW 7
    have hy := CellsAt.lt CW
    simp at y0 y1 y2 y3 y4 y5 y6 y7
    go_wp2_with fail
    refine (sameModule_yes _ _ _ _ ((IsMod.below HI1.out BX).more (Nat.le_of_lt hx)) HI2.out).mono ?_
    rintro e w8 ⟨rfl, b⟩
    replace BB := BB.trans (b.mono BB.size)
    go_wp2
    go_ret
    exact ⟨by first | rfl | simp, BB⟩
  · obtain ⟨hz, rfl⟩ := Prod.mk.inj he
    unfold zeroP at hz
    injection hz with hz hfi
    injection hz with h1 h2 h3 h4 h5 h6 h7
    subst h1 h2 h3 h4 h5 h6 h7 hfi
    clear he HAT
    try simp only [List.length_nil] at *
    go_wp2_with fail
    refine (HP.out _ HBB.out).mono ?_
    have BB := HBB.out
    have CR := HCR.out
    have CX := HCX.out
    have CW := HCW.out
    have BX := HBX.out
    clear HBB HCR HCX HCW HBX
    generalize w4.alloc (.cells #[.string ⟨#[]⟩, .int .i64 0, .int .i64 0, .string ⟨#[]⟩, .slice none 0 0, .slice none 0 0, .slice none 0 0, .int .i64 0] 41) = w5 at BB CR CX CW BX ⊢
    generalize w4.heap.size = bw at CW ⊢
    rintro e w5' ⟨rfl, b⟩
    replace CR := CellsAt.below CR b (CellsAt.lt CR)
    replace BX := BX.trans (b.mono (Nat.le_of_lt (CellsAt.lt CX)))
    replace CX := CellsAt.below CX b (CellsAt.lt CX)
    replace CW := CellsAt.below CW b (CellsAt.lt CW)
    replace BB := BB.trans (b.mono BB.size)
    have HI2 : Hid (IsMod w5'.heap.size w5' (.agg #[.string ⟨#[]⟩, .int .i64 0, .int .i64 0, .string ⟨#[]⟩, .slice none 0 0, .slice none 0 0, .slice none 0 0]) ⟨⟨#[]⟩, 0, 0, ⟨#[]⟩, [], [], []⟩) := zero_isMod _ _
    clear b HP k3 hk
    go_wp2_with fail
    refine (registryBegun_any _).mono ?_
    rintro e w6 ⟨rfl, b⟩
    replace CR := CellsAt.below CR b (CellsAt.lt CR)
    replace BX := BX.trans (b.mono (Nat.le_of_lt (CellsAt.lt CX)))
    replace CX := CellsAt.below CX b (CellsAt.lt CX)
    replace CW := CellsAt.below CW b (CellsAt.lt CW)
    replace BB := BB.trans (b.mono BB.size)
    replace HI2 : Hid (IsMod w6.heap.size w6 (.agg #[.string ⟨#[]⟩, .int .i64 0, .int .i64 0, .string ⟨#[]⟩, .slice none 0 0, .slice none 0 0, .slice none 0 0]) ⟨⟨#[]⟩, 0, 0, ⟨#[]⟩, [], [], []⟩) := (IsMod.below HI2.out b).more b.size
    clear b
    have k0 := CellsAt.cell CR 0
    have k1 := CellsAt.cell CR 1
    have k2 := CellsAt.cell CR 2
    have k3 := CellsAt.cell CR 3
    have hk := CellsAt.lt CR
    simp at k0 k1 k2 k3
    go_wp2_with fail
    refine (HCK.out _ BB).mono ?_
    rintro e w7 ⟨rfl, b⟩
    replace BX := BX.trans (b.mono (Nat.le_of_lt (CellsAt.lt CX)))
    replace CX := CellsAt.below CX b (CellsAt.lt CX)
    replace CW := CellsAt.below CW b (CellsAt.lt CW)
    replace BB := BB.trans (b.mono BB.size)
    replace HI2 : Hid (IsMod w7.heap.size w7 (.agg #[.string ⟨#[]⟩, .int .i64 0, .int .i64 0, .string ⟨#[]⟩, .slice none 0 0, .slice none 0 0, .slice none 0 0]) ⟨⟨#[]⟩, 0, 0, ⟨#[]⟩, [], [], []⟩) := (IsMod.below HI2.out b).more b.size
    clear b k0 k1 k2 k3 hk HCK
    have x0 := CellsAt.cell CX 0
    have x1 := CellsAt.cell CX 1
    have x2 := CellsAt.cell CX 2
    have x3 := CellsAt.cell CX 3
    have x4 := CellsAt.cell CX 4
    have x5 := CellsAt.cell CX 5
    have x6 := CellsAt.cell CX 6
    have x7 := CellsAt.cell CX 7
    have hx := CellsAt.lt CX
    simp at x0 x1 x2 x3 x4 x5 x6 x7
    have y0 := CellsAt.cell CW 0
    have y1 := CellsAt.cell CW 1
    have y2 := CellsAt.cell CW 2
    have y3 := CellsAt.cell CW 3
    have y4 := CellsAt.cell CW 4
    have y5 := CellsAt.cell CW 5
    have y6 := CellsAt.cell CW 6
    have y7 := CellsAt.cell CW 7
    have hy := CellsAt.lt CW
    simp at y0 y1 y2 y3 y4 y5 y6 y7
    go_wp2_with fail
    refine (sameModule_yes _ _ _ _ ((IsMod.below HI1.out BX).more (Nat.le_of_lt hx)) HI2.out).mono ?_
    rintro e w8 ⟨rfl, b⟩
    replace BB := BB.trans (b.mono BB.size)
    go_wp2
    go_ret
    exact ⟨by first | rfl | simp, BB⟩
  · obtain ⟨hz, rfl⟩ := Prod.mk.inj he
    have hlt : (j : Int) < (l.length : Int) := by have := (List.getElem?_eq_some_iff.1 hx).1; omega
    have hj0 : ¬ ((j : Int) < 0) := by omega
    rcases hrow with h | ⟨b0, off, rfl, hbn, hcells⟩
    · subst h; simp at hx
    clear he
    have hbw1 : w.heap.size < w4.heap.size := hk4r
    have hbw2 : bx < w4.heap.size := hk4x
    go_wp2_with fail
    refine (HP.out _ HBB.out).mono ?_
    have BB := HBB.out
    have CR := HCR.out
    have CX := HCX.out
    have CW := HCW.out
    have BX := HBX.out
    clear HBB HCR HCX HCW HBX
    generalize w4.alloc (.cells #[.string ⟨#[]⟩, .int .i64 0, .int .i64 0, .string ⟨#[]⟩, .slice none 0 0, .slice none 0 0, .slice none 0 0, .int .i64 0] 41) = w5 at BB CR CX CW BX ⊢
    generalize w4.heap.size = bw at CW hbw1 hbw2 ⊢
    rintro e w5' ⟨rfl, b⟩
    replace CR := CellsAt.below CR b (CellsAt.lt CR)
    replace BX := BX.trans (b.mono (Nat.le_of_lt (CellsAt.lt CX)))
    replace CX := CellsAt.below CX b (CellsAt.lt CX)
    replace CW := CellsAt.below CW b (CellsAt.lt CW)
    replace BB := BB.trans (b.mono BB.size)
    clear b HP k3 hk
    have hatx := HAT.out x (List.mem_of_getElem? hx)
    have HAX : Hid (∀ W, Below w.heap.size w W → IsMod W.heap.size W x.modV x.mod) := fun W hb => (hatx W hb).isMod
    obtain ⟨⟨pe2, ke2, e4, -⟩, ⟨pi2, ki2, e5, -⟩, ⟨pp2, kp2, e6, -⟩⟩ := hatx w5' BB
    have c0 := (BB.cell (p := ⟨b0, off + j * 8 + 0, none⟩) hbn).trans (hcells j _ hx 0 (by omega))
    have c1 := (BB.cell (p := ⟨b0, off + j * 8 + 1, none⟩) hbn).trans (hcells j _ hx 1 (by omega))
    have c2 := (BB.cell (p := ⟨b0, off + j * 8 + 2, none⟩) hbn).trans (hcells j _ hx 2 (by omega))
    have c3 := (BB.cell (p := ⟨b0, off + j * 8 + 3, none⟩) hbn).trans (hcells j _ hx 3 (by omega))
    have c4 := (BB.cell (p := ⟨b0, off + j * 8 + 4, none⟩) hbn).trans (hcells j _ hx 4 (by omega))
    have c5 := (BB.cell (p := ⟨b0, off + j * 8 + 5, none⟩) hbn).trans (hcells j _ hx 5 (by omega))
    have c6 := (BB.cell (p := ⟨b0, off + j * 8 + 6, none⟩) hbn).trans (hcells j _ hx 6 (by omega))
    have c7 := (BB.cell (p := ⟨b0, off + j * 8 + 7, none⟩) hbn).trans (hcells j _ hx 7 (by omega))
    clear hcells hx hatx HAT
    obtain ⟨xm, ve2, vi2, vp2, fi2⟩ := x
    dsimp only [PV.modV, PV.cell] at *
    injection hz with hz1 hz2
    subst hz1 hz2 e4 e5 e6
    dsimp only at *
    rw [Nat.add_zero] at c0
    have hbn3 : b0 < w5'.heap.size := Nat.lt_of_lt_of_le hbn BB.size
    have k3 := CellsAt.cell CR 3
    have hk := CellsAt.lt CR
    simp at k3
    have y0 := CellsAt.cell CW 0
    have g0 := CellsAt.frozen CW 0
    have y1 := CellsAt.cell CW 1
    have g1 := CellsAt.frozen CW 1
    have y2 := CellsAt.cell CW 2
    have g2 := CellsAt.frozen CW 2
    have y3 := CellsAt.cell CW 3
    have g3 := CellsAt.frozen CW 3
    have y4 := CellsAt.cell CW 4
    have g4 := CellsAt.frozen CW 4
    have y5 := CellsAt.cell CW 5
    have g5 := CellsAt.frozen CW 5
    have y6 := CellsAt.cell CW 6
    have g6 := CellsAt.frozen CW 6
    have y7 := CellsAt.cell CW 7
    have g7 := CellsAt.frozen CW 7
    have hyw := CellsAt.lt CW
    simp at y0 y1 y2 y3 y4 y5 y6 y7
    have HCW : Hid _ := CW
    have HCR : Hid _ := CR
    have HCX : Hid _ := CX
    have HBB : Hid _ := BB
    have HBX : Hid _ := BX
    clear CR CX CW BB BX
    go_wp2_with fail
    refine (registryBegun_any _).mono ?_
    have BB := HBB.out
    have CR := HCR.out
    have CX := HCX.out
    have CW := HCW.out
    have BX := HBX.out
    clear HBB HCR HCX HCW HBX
    have hF := sets8 (W := w5') (B := bw) (t := 41) CW (.string N) (.int .i64 xa) (.int .i64 xi) (.string T) (.slice pe2 es.length ke2) (.slice pi2 is.length ki2) (.slice pp2 ps.length kp2) (.int .i64 fi)
    have hG := sets8_grown w5' bw (.string N) (.int .i64 xa) (.int .i64 xi) (.string T) (.slice pe2 es.length ke2) (.slice pi2 is.length ki2) (.slice pp2 ps.length kp2) (.int .i64 fi)
    have CR' := CellsAt.kept CR hG (fun e => by have := Option.some.inj e; omega)
    have CX' := CellsAt.kept CX hG (fun e => by have := Option.some.inj e; omega)
    have BB' := BB.grown hG BB.size (fun k e => by obtain rfl := Option.some.inj e; omega)
    have BX' := BX.grown hG (Nat.le_of_lt (CellsAt.lt CX)) (fun k e => by obtain rfl := Option.some.inj e; omega)
    have HI2 : Hid (IsMod _ _ (.agg #[.string N, .int .i64 xa, .int .i64 xi, .string T, .slice pe2 es.length ke2, .slice pi2 is.length ki2, .slice pp2 ps.length kp2]) ⟨N, xa, xi, T, es, is, ps⟩) := HAX.out _ BB'
    clear CR CX CW BB BX HAX hG
    have CR := CR'
    have CX := CX'
    have CW := hF
    have BB := BB'
    have BX := BX'
    clear CR' CX' hF BB' BX'
    generalize ((((((((w5'.setCell ⟨bw, 0, none⟩ (.string N)).setCell ⟨bw, 1, none⟩ (.int .i64 xa)).setCell ⟨bw, 2, none⟩ (.int .i64 xi)).setCell ⟨bw, 3, none⟩ (.string T)).setCell ⟨bw, 4, none⟩ (.slice pe2 es.length ke2)).setCell ⟨bw, 5, none⟩ (.slice pi2 is.length ki2)).setCell ⟨bw, 6, none⟩ (.slice pp2 ps.length kp2)).setCell ⟨bw, 7, none⟩ (.int .i64 fi)) = w5 at BB CR CX CW BX HI2 ⊢
    clear c0 c1 c2 c3 c4 c5 c6 c7 y0 y1 y2 y3 y4 y5 y6 y7 g0 g1 g2 g3 g4 g5 g6 g7 k3 hk
    rintro e w6 ⟨rfl, b⟩
    replace CR := CellsAt.below CR b (CellsAt.lt CR)
    replace BX := BX.trans (b.mono (Nat.le_of_lt (CellsAt.lt CX)))
    replace CX := CellsAt.below CX b (CellsAt.lt CX)
    replace CW := CellsAt.below CW b (CellsAt.lt CW)
    replace BB := BB.trans (b.mono BB.size)
    replace HI2 : Hid (IsMod w6.heap.size w6 (.agg #[.string N, .int .i64 xa, .int .i64 xi, .string T, .slice pe2 es.length ke2, .slice pi2 is.length ki2, .slice pp2 ps.length kp2]) ⟨N, xa, xi, T, es, is, ps⟩) := (IsMod.below HI2.out b).more b.size
    clear b
    have k0 := CellsAt.cell CR 0
    have k1 := CellsAt.cell CR 1
    have k2 := CellsAt.cell CR 2
    have k3 := CellsAt.cell CR 3
    have hk := CellsAt.lt CR
    simp at k0 k1 k2 k3
    go_wp2_with fail
    refine (HCK.out _ BB).mono ?_
    rintro e w7 ⟨rfl, b⟩
    replace BX := BX.trans (b.mono (Nat.le_of_lt (CellsAt.lt CX)))
    replace CX := CellsAt.below CX b (CellsAt.lt CX)
    replace CW := CellsAt.below CW b (CellsAt.lt CW)
    replace BB := BB.trans (b.mono BB.size)
    replace HI2 : Hid (IsMod w7.heap.size w7 (.agg #[.string N, .int .i64 xa, .int .i64 xi, .string T, .slice pe2 es.length ke2, .slice pi2 is.length ki2, .slice pp2 ps.length kp2]) ⟨N, xa, xi, T, es, is, ps⟩) := (IsMod.below HI2.out b).more b.size
    clear b k0 k1 k2 k3 hk HCK
    have x0 := CellsAt.cell CX 0
    have x1 := CellsAt.cell CX 1
    have x2 := CellsAt.cell CX 2
    have x3 := CellsAt.cell CX 3
    have x4 := CellsAt.cell CX 4
    have x5 := CellsAt.cell CX 5
    have x6 := CellsAt.cell CX 6
    have x7 := CellsAt.cell CX 7
    have hx := CellsAt.lt CX
    simp at x0 x1 x2 x3 x4 x5 x6 x7
    have y0 := CellsAt.cell CW 0
    have y1 := CellsAt.cell CW 1
    have y2 := CellsAt.cell CW 2
    have y3 := CellsAt.cell CW 3
    have y4 := CellsAt.cell CW 4
    have y5 := CellsAt.cell CW 5
    have y6 := CellsAt.cell CW 6
    have y7 := CellsAt.cell CW 7
    have hy := CellsAt.lt CW
    simp at y0 y1 y2 y3 y4 y5 y6 y7
    go_wp2_with fail
    refine (sameModule_yes _ _ _ _ ((IsMod.below HI1.out BX).more (Nat.le_of_lt hx)) HI2.out).mono ?_
    rintro e w8 ⟨rfl, b⟩
    replace BB := BB.trans (b.mono BB.size)
    go_wp2
    go_ret
    exact ⟨by first | rfl | simp, BB⟩

end Go.Proofs.YtppmihnbpmkbnadGreat.registryTells

/- Arguments that came in: texts, numbers, rows, a patch. -/
namespace Go.Proofs.YtppmihnbpmkbnadGreat
open Go.ChangeShapes Go.WideShapes Go.ChangeAt Go.RowKit Go.PlainAid Go.Deep

set_option maxRecDepth 100000

theorem list7 {α : Type} {l : List α} (h : l.length = 7) : ∃ a b c d e f g, l = [a, b, c, d, e, f, g] := by
  match l, h with
  | [a, b, c, d, e, f, g], _ => exact ⟨a, b, c, d, e, f, g, rfl⟩
theorem list4 {α : Type} {l : List α} (h : l.length = 4) : ∃ a b c d, l = [a, b, c, d] := by
  match l, h with
  | [a, b, c, d], _ => exact ⟨a, b, c, d, rfl⟩
theorem list2 {α : Type} {l : List α} (h : l.length = 2) : ∃ a b, l = [a, b] := by
  match l, h with
  | [a, b], _ => exact ⟨a, b, rfl⟩

section
variable {H : Type} {enc : TypeId × Value → H} {W : World} {spare : Nat → Bool} {held : Bool}

theorem row_of_trod {α : Type} [Inhabited α] {t e : TypeId} {sz fuel : Nat} {c : Value} {y : DataW H × List MemPlace} {cells : α → Nat → Value} {good : α → Prop} (ht : Tryz.prog.underlying t = some (.slice e)) (hsz : Tryz.prog.cellsOf e = sz) (h0 : 0 < sz)
    (conv : ∀ n cs z, cs.length = sz → DataW.trod enc Tryz.prog W 0 spare held n e cs = some z → ∃ x : α, (∀ i, i < sz → cs[i]? = some (cells x i)) ∧ good x)
    (h : DataW.trod enc Tryz.prog W 0 spare held fuel t [c] = some y) : ∃ l : List α, RowOf sz cells W.heap.size W c l ∧ ∀ x ∈ l, good x := by
  rcases open_slice ht h with ⟨hc, _⟩ | ⟨a, len, cap, m, n, D, Pl, hc, _, hl, hm, hmm, _, hx⟩
  · injection hc with hc
    subst hc
    exact ⟨[], ⟨none, 0, rfl, Nat.zero_le _, .inl rfl⟩, by simp⟩
  · injection hc with hc
    subst hc
    rw [hsz] at hx
    have hle : len ≤ m := by rw [hmm]; split <;> omega
    obtain ⟨X, hX⟩ := choose_lt (α := α) (n := len) (p := fun i x => (∀ j, j < sz → W.cell? (a.add (i * sz + j)) = some (cells x j)) ∧ good x) (fun i hi => by
      obtain ⟨cs', h1, h2⟩ := hx i (by omega)
      obtain ⟨_, hlen, hcell⟩ := World.cells?_some h1
      obtain ⟨x, hx1, hx2⟩ := conv n cs' _ hlen h2
      refine ⟨x, fun j hj => ?_, hx2⟩
      have h3 := hcell j hj
      rw [hx1 j hj] at h3
      have hadd : (a.add (i * sz)).add j = a.add (i * sz + j) ∨ W.cell? ((a.add (i * sz)).add j) = W.cell? (a.add (i * sz + j)) := by
        unfold Addr.add
        by_cases e1 : i * sz = 0
        · rw [if_pos e1, e1, Nat.zero_add]; exact .inl rfl
        · rw [if_neg e1]
          by_cases e2 : j = 0
          · rw [if_pos e2, e2, Nat.add_zero, if_neg e1]; exact .inl rfl
          · rw [if_neg e2, if_neg (by omega), Nat.add_assoc]; exact .inl rfl
      rcases hadd with hadd | hadd
      · rw [← hadd]; exact h3
      · rw [← hadd]; exact h3)
    refine ⟨(List.range len).map X, ⟨some a, cap, by simp, by simp; unfold maxLen at hm; omega, ?_⟩, ?_⟩
    · by_cases hz : len = 0
      · left
        subst hz
        rfl
      · right
        have hc0 := (hX 0 (by omega)).1 0 h0
        rw [Nat.zero_mul, Nat.zero_add] at hc0
        obtain ⟨b, off, spot⟩ := a
        have hsp : spot = none := by simpa [Addr.add] using World.cell?_spot hc0
        subst hsp
        refine ⟨b, off, rfl, ?_, fun j x hj i hi => ?_⟩
        · have := World.block_lt_of_cell? W _ hc0
          simpa [Addr.add] using this
        · have hjl : j < len := by
            have := (List.getElem?_eq_some_iff.1 hj).1
            simpa using this
          obtain rfl : X j = x := by
            rw [List.getElem?_map, List.getElem?_range hjl] at hj
            simpa using hj
          have h4 := (hX j hjl).1 i hi
          unfold Addr.add at h4
          by_cases e0 : j * sz + i = 0
          · rw [if_pos e0] at h4
            rw [Nat.add_assoc, e0]
            exact h4
          · rw [if_neg e0] at h4
            rw [Nat.add_assoc]
            exact h4
    · intro x hx
      obtain ⟨i, hi, rfl⟩ := List.mem_map.1 hx
      exact (hX i (by simpa using hi)).2

theorem str_of_trod {n : Nat} {c : Value} {y : DataW H × List MemPlace} (h : DataW.trod enc Tryz.prog W 0 spare held n 9 [c] = some y) : ∃ s : ByteArray, c = .string s ∧ s.size ≤ 9223372036854775807 := by
  obtain ⟨s, hc, _, hs⟩ := DataW.trod_string Tryz.underlying9 h
  injection hc with hc
  exact ⟨s, hc, hs⟩
theorem int_of_trod {n : Nat} {c : Value} {y : DataW H × List MemPlace} (h : DataW.trod enc Tryz.prog W 0 spare held n 3 [c] = some y) : ∃ k : Int, c = .int .i64 k := by
  obtain ⟨k, hc, _, _⟩ := DataW.trod_int Tryz.underlying3 h
  injection hc with hc
  exact ⟨k, hc⟩

theorem exp_of_trod (n : Nat) (cs : List Value) (z : DataW H × List MemPlace) (hl : cs.length = 2) (h : DataW.trod enc Tryz.prog W 0 spare held n 120 cs = some z) : ∃ x : Exp, (∀ i, i < 2 → cs[i]? = some (Exp.cell x i)) ∧ x.name.size ≤ 9223372036854775807 := by
  obtain ⟨xs, m, _, _, _, hlen, hf⟩ := DataW.trod_struct Tryz.underlying120 h
  obtain ⟨x0, x1, rfl⟩ := list2 hlen
  obtain ⟨c0, c1, rfl⟩ := list2 hl
  obtain ⟨s, rfl, hs⟩ := str_of_trod (hf 0 _ rfl)
  obtain ⟨k, rfl⟩ := int_of_trod (hf 1 _ rfl)
  refine ⟨⟨s, k⟩, fun i hi => ?_, hs⟩
  have : i = 0 ∨ i = 1 := by omega
  rcases this with rfl | rfl <;> rfl
theorem imp_of_trod (n : Nat) (cs : List Value) (z : DataW H × List MemPlace) (hl : cs.length = 4) (h : DataW.trod enc Tryz.prog W 0 spare held n 84 cs = some z) : ∃ x : Imp, (∀ i, i < 4 → cs[i]? = some (Imp.cell x i)) ∧ x.fits := by
  obtain ⟨xs, m, _, _, _, hlen, hf⟩ := DataW.trod_struct Tryz.underlying84 h
  obtain ⟨x0, x1, x2, x3, rfl⟩ := list4 hlen
  obtain ⟨c0, c1, c2, c3, rfl⟩ := list4 hl
  obtain ⟨s, rfl, hs⟩ := str_of_trod (hf 0 _ rfl)
  obtain ⟨t, rfl, ht⟩ := str_of_trod (hf 1 _ rfl)
  obtain ⟨k, rfl⟩ := int_of_trod (hf 2 _ rfl)
  obtain ⟨j, rfl⟩ := int_of_trod (hf 3 _ rfl)
  refine ⟨⟨s, t, k, j⟩, fun i hi => ?_, ⟨hs, ht⟩⟩
  have : i = 0 ∨ i = 1 ∨ i = 2 ∨ i = 3 := by omega
  rcases this with rfl | rfl | rfl | rfl <;> rfl
theorem pat_of_trod (n : Nat) (cs : List Value) (z : DataW H × List MemPlace) (hl : cs.length = 4) (h : DataW.trod enc Tryz.prog W 0 spare held n 43 cs = some z) : ∃ x : Pat, (∀ i, i < 4 → cs[i]? = some (Pat.cell x i)) ∧ True := by
  obtain ⟨xs, m, _, _, _, hlen, hf⟩ := DataW.trod_struct Tryz.underlying43 h
  obtain ⟨x0, x1, x2, x3, rfl⟩ := list4 hlen
  obtain ⟨c0, c1, c2, c3, rfl⟩ := list4 hl
  obtain ⟨a, rfl⟩ := int_of_trod (hf 0 _ rfl)
  obtain ⟨b, rfl⟩ := int_of_trod (hf 1 _ rfl)
  obtain ⟨k, rfl⟩ := int_of_trod (hf 2 _ rfl)
  obtain ⟨j, rfl⟩ := int_of_trod (hf 3 _ rfl)
  refine ⟨⟨a, b, k, j⟩, fun i hi => ?_, trivial⟩
  have : i = 0 ∨ i = 1 ∨ i = 2 ∨ i = 3 := by omega
  rcases this with rfl | rfl | rfl | rfl <;> rfl

theorem open_patch {v : Value} {d : DataW H} {ps : List MemPlace} {base : Nat} (hv : Value.okWide Tryz.prog W .any base 43 v) (h : DataW.Trod enc Tryz.prog W 0 spare held 43 v d ps) : ∃ p : Pat, v = .agg #[.int .i64 p.kind, .int .i64 p.pos, .int .i64 p.sym, .int .i64 p.add] := by
  obtain ⟨cs, rfl, hcs⟩ := okWide_struct Tryz.underlying43 hv
  obtain ⟨fuel, hf⟩ := h
  obtain ⟨xs, m, _, _, hl, hlen, hf⟩ := DataW.trod_struct Tryz.underlying43 hf
  have hc4 : Tryz.prog.cellsOf 43 = 4 := by kernel_rfl
  obtain ⟨x0, x1, x2, x3, rfl⟩ := list4 hlen
  rw [hc4] at hl
  obtain ⟨c0, c1, c2, c3, hcl⟩ := list4 hl
  have hcs' : cs.toList = [c0, c1, c2, c3] := hcl
  have hcA : cs = #[c0, c1, c2, c3] := by rw [← Array.toArray_toList (xs := cs), hcs']
  subst hcA
  have f0 := hf 0 _ rfl
  have f1 := hf 1 _ rfl
  have f2 := hf 2 _ rfl
  have f3 := hf 3 _ rfl
  obtain ⟨a, rfl⟩ := int_of_trod f0
  obtain ⟨b, rfl⟩ := int_of_trod f1
  obtain ⟨c, rfl⟩ := int_of_trod f2
  obtain ⟨e, rfl⟩ := int_of_trod f3
  exact ⟨⟨a, b, c, e⟩, rfl⟩
end

end Go.Proofs.YtppmihnbpmkbnadGreat

/- A module that came in. -/
namespace Go.Proofs.YtppmihnbpmkbnadGreat
open Go.ChangeShapes Go.WideShapes Go.ChangeAt Go.RowKit Go.PlainAid Go.Deep

set_option maxRecDepth 100000

section
variable {H : Type} {enc : TypeId × Value → H} {W : World} {spare : Nat → Bool} {held : Bool}

theorem open_module {v : Value} {d : DataW H} {ps : List MemPlace} {base : Nat} (hv : Value.okWide Tryz.prog W .any base 39 v) (h : DataW.Trod enc Tryz.prog W 0 spare held 39 v d ps) : ∃ M, IsMod W.heap.size W v M ∧ M.fits := by
  obtain ⟨cs, rfl, hcs⟩ := okWide_struct Tryz.underlying39 hv
  obtain ⟨fuel, hf⟩ := h
  obtain ⟨xs, m, _, _, hl, hlen, hf⟩ := DataW.trod_struct Tryz.underlying39 hf
  have hc7 : Tryz.prog.cellsOf 39 = 7 := by kernel_rfl
  obtain ⟨x0, x1, x2, x3, x4, x5, x6, rfl⟩ := list7 hlen
  rw [hc7] at hl
  obtain ⟨c0, c1, c2, c3, c4, c5, c6, hcl⟩ := list7 hl
  have hcs' : cs.toList = [c0, c1, c2, c3, c4, c5, c6] := hcl
  have hcA : cs = #[c0, c1, c2, c3, c4, c5, c6] := by rw [← Array.toArray_toList (xs := cs), hcs']
  subst hcA
  have f0 := hf 0 _ rfl
  have f1 := hf 1 _ rfl
  have f2 := hf 2 _ rfl
  have f3 := hf 3 _ rfl
  have f4 := hf 4 _ rfl
  have f5 := hf 5 _ rfl
  have f6 := hf 6 _ rfl
  obtain ⟨N, rfl, hN⟩ := str_of_trod f0
  obtain ⟨a, rfl⟩ := int_of_trod f1
  obtain ⟨b, rfl⟩ := int_of_trod f2
  obtain ⟨T, rfl, hT⟩ := str_of_trod f3
  have _ : Inhabited Exp := ⟨⟨⟨#[]⟩, 0⟩⟩
  have _ : Inhabited Imp := ⟨⟨⟨#[]⟩, ⟨#[]⟩, 0, 0⟩⟩
  have _ : Inhabited Pat := ⟨⟨0, 0, 0, 0⟩⟩
  obtain ⟨es, hE, gE⟩ := row_of_trod (cells := Exp.cell) Tryz.underlying22 (sz := 2) (by kernel_rfl) (by decide) exp_of_trod f4
  obtain ⟨is, hI, gI⟩ := row_of_trod (cells := Imp.cell) Tryz.underlying36 (sz := 4) (by kernel_rfl) (by decide) imp_of_trod f5
  obtain ⟨ps, hP, _⟩ := row_of_trod (cells := Pat.cell) Tryz.underlying37 (sz := 4) (by kernel_rfl) (by decide) pat_of_trod f6
  exact ⟨⟨N, a, b, T, es, is, ps⟩, ⟨c4, c5, c6, rfl, hE, hI, hP⟩, hN, hT, gE, gI⟩
end

end Go.Proofs.YtppmihnbpmkbnadGreat

/- Placed modules and imports that came in. -/
namespace Go.Proofs.YtppmihnbpmkbnadGreat
open Go.ChangeShapes Go.WideShapes Go.ChangeAt Go.RowKit Go.PlainAid Go.Deep

set_option maxRecDepth 100000

theorem list3 {α : Type} {l : List α} (h : l.length = 3) : ∃ a b c, l = [a, b, c] := by
  match l, h with
  | [a, b, c], _ => exact ⟨a, b, c, rfl⟩
theorem list8 {α : Type} {l : List α} (h : l.length = 8) : ∃ a b c d e f g k, l = [a, b, c, d, e, f, g, k] := by
  match l, h with
  | [a, b, c, d, e, f, g, k], _ => exact ⟨a, b, c, d, e, f, g, k, rfl⟩

section
variable {H : Type} {enc : TypeId × Value → H} {W : World} {spare : Nat → Bool} {held : Bool}

theorem mod_of_trod (n : Nat) (c0 c1 c2 c3 c4 c5 c6 : Value) (z : DataW H × List MemPlace) (h : DataW.trod enc Tryz.prog W 0 spare held n 39 [c0, c1, c2, c3, c4, c5, c6] = some z) :
    ∃ M : Mod, c0 = .string M.name ∧ c1 = .int .i64 M.major ∧ c2 = .int .i64 M.minor ∧ c3 = .string M.text ∧ RowOf 2 Exp.cell W.heap.size W c4 M.exps ∧ RowOf 4 Imp.cell W.heap.size W c5 M.imps ∧ RowOf 4 Pat.cell W.heap.size W c6 M.pats ∧ M.fits := by
  obtain ⟨xs, m, _, _, _, hlen, hf⟩ := DataW.trod_struct Tryz.underlying39 h
  obtain ⟨x0, x1, x2, x3, x4, x5, x6, rfl⟩ := list7 hlen
  have f0 := hf 0 _ rfl
  have f1 := hf 1 _ rfl
  have f2 := hf 2 _ rfl
  have f3 := hf 3 _ rfl
  have f4 := hf 4 _ rfl
  have f5 := hf 5 _ rfl
  have f6 := hf 6 _ rfl
  obtain ⟨N, rfl, hN⟩ := str_of_trod f0
  obtain ⟨a, rfl⟩ := int_of_trod f1
  obtain ⟨b, rfl⟩ := int_of_trod f2
  obtain ⟨T, rfl, hT⟩ := str_of_trod f3
  have _ : Inhabited Exp := ⟨⟨⟨#[]⟩, 0⟩⟩
  have _ : Inhabited Imp := ⟨⟨⟨#[]⟩, ⟨#[]⟩, 0, 0⟩⟩
  have _ : Inhabited Pat := ⟨⟨0, 0, 0, 0⟩⟩
  obtain ⟨es, hE, gE⟩ := row_of_trod (cells := Exp.cell) Tryz.underlying22 (sz := 2) (by kernel_rfl) (by decide) exp_of_trod f4
  obtain ⟨is, hI, gI⟩ := row_of_trod (cells := Imp.cell) Tryz.underlying36 (sz := 4) (by kernel_rfl) (by decide) imp_of_trod f5
  obtain ⟨ps, hP, _⟩ := row_of_trod (cells := Pat.cell) Tryz.underlying37 (sz := 4) (by kernel_rfl) (by decide) pat_of_trod f6
  exact ⟨⟨N, a, b, T, es, is, ps⟩, rfl, rfl, rfl, rfl, hE, hI, hP, hN, hT, gE, gI⟩

theorem plc_of_trod (n : Nat) (cs : List Value) (z : DataW H × List MemPlace) (hl : cs.length = 8) (h : DataW.trod enc Tryz.prog W 0 spare held n 41 cs = some z) : ∃ x : PV, (∀ i, i < 8 → cs[i]? = some (PV.cell x i)) ∧ (PlcAt W.heap.size W x ∧ x.mod.fits) := by
  obtain ⟨xs, m, _, _, _, hlen, hf⟩ := DataW.trod_struct Tryz.underlying41 h
  obtain ⟨x0, x1, rfl⟩ := list2 hlen
  obtain ⟨c0, c1, c2, c3, c4, c5, c6, c7, rfl⟩ := list8 hl
  have h7 : Tryz.prog.cellsOf 39 = 7 := by kernel_rfl
  have f0 : DataW.trod enc Tryz.prog W 0 spare held m 39 (([c0, c1, c2, c3, c4, c5, c6, c7].drop 0).take (Tryz.prog.cellsOf 39)) = some x0 := hf 0 _ rfl
  rw [h7] at f0
  obtain ⟨M, rfl, rfl, rfl, rfl, hE, hI, hP, hF⟩ := mod_of_trod m c0 c1 c2 c3 c4 c5 c6 x0 f0
  obtain ⟨k, rfl⟩ := int_of_trod (hf 1 _ rfl)
  refine ⟨⟨M, c4, c5, c6, k⟩, fun i hi => ?_, ⟨hE, hI, hP⟩, hF⟩
  have : i = 0 ∨ i = 1 ∨ i = 2 ∨ i = 3 ∨ i = 4 ∨ i = 5 ∨ i = 6 ∨ i = 7 := by omega
  rcases this with rfl | rfl | rfl | rfl | rfl | rfl | rfl | rfl <;> rfl

theorem open_import {v : Value} {d : DataW H} {ps : List MemPlace} {base : Nat} (hv : Value.okWide Tryz.prog W .any base 84 v) (h : DataW.Trod enc Tryz.prog W 0 spare held 84 v d ps) : ∃ i : Imp, v = .agg #[.string i.mod, .string i.name, .int .i64 i.major, .int .i64 i.minor] ∧ i.fits := by
  obtain ⟨cs, rfl, hcs⟩ := okWide_struct Tryz.underlying84 hv
  obtain ⟨fuel, hf⟩ := h
  obtain ⟨xs, m, _, _, hl, hlen, hf⟩ := DataW.trod_struct Tryz.underlying84 hf
  have hc4 : Tryz.prog.cellsOf 84 = 4 := by kernel_rfl
  obtain ⟨x0, x1, x2, x3, rfl⟩ := list4 hlen
  rw [hc4] at hl
  obtain ⟨c0, c1, c2, c3, hcl⟩ := list4 hl
  have hcs' : cs.toList = [c0, c1, c2, c3] := hcl
  have hcA : cs = #[c0, c1, c2, c3] := by rw [← Array.toArray_toList (xs := cs), hcs']
  subst hcA
  obtain ⟨s, rfl, hs⟩ := str_of_trod (hf 0 _ rfl)
  obtain ⟨t, rfl, ht⟩ := str_of_trod (hf 1 _ rfl)
  obtain ⟨a, rfl⟩ := int_of_trod (hf 2 _ rfl)
  obtain ⟨b, rfl⟩ := int_of_trod (hf 3 _ rfl)
  exact ⟨⟨s, t, a, b⟩, rfl, hs, ht⟩

theorem open_plc {v : Value} {d : DataW H} {ps : List MemPlace} {base : Nat} (hv : Value.okWide Tryz.prog W .any base 41 v) (h : DataW.Trod enc Tryz.prog W 0 spare held 41 v d ps) : ∃ x : PV, v = x.val ∧ PlcAt W.heap.size W x ∧ x.mod.fits := by
  obtain ⟨cs, rfl, hcs⟩ := okWide_struct Tryz.underlying41 hv
  obtain ⟨fuel, hf⟩ := h
  have hl := (DataW.trod_struct Tryz.underlying41 hf)
  obtain ⟨_, _, _, _, hl, _, _⟩ := hl
  have hc8 : Tryz.prog.cellsOf 41 = 8 := by kernel_rfl
  rw [hc8] at hl
  obtain ⟨x, hx, g1, g2⟩ := plc_of_trod _ _ _ hl hf
  obtain ⟨c0, c1, c2, c3, c4, c5, c6, c7, hcl⟩ := list8 hl
  have hcs' : cs.toList = [c0, c1, c2, c3, c4, c5, c6, c7] := hcl
  have hcA : cs = #[c0, c1, c2, c3, c4, c5, c6, c7] := by rw [← Array.toArray_toList (xs := cs), hcs']
  subst hcA
  have e0 : c0 = _ := Option.some.inj (hx 0 (by omega))
  have e1 : c1 = _ := Option.some.inj (hx 1 (by omega))
  have e2 : c2 = _ := Option.some.inj (hx 2 (by omega))
  have e3 : c3 = _ := Option.some.inj (hx 3 (by omega))
  have e4 : c4 = _ := Option.some.inj (hx 4 (by omega))
  have e5 : c5 = _ := Option.some.inj (hx 5 (by omega))
  have e6 : c6 = _ := Option.some.inj (hx 6 (by omega))
  have e7 : c7 = _ := Option.some.inj (hx 7 (by omega))
  subst e0 e1 e2 e3 e4 e5 e6 e7
  exact ⟨x, rfl, g1, g2⟩

theorem open_placed {v : Value} {d : DataW H} {ps : List MemPlace} {base : Nat} (hv : Value.okWide Tryz.prog W .any base 25 v) (h : DataW.Trod enc Tryz.prog W 0 spare held 25 v d ps) : ∃ l : List PV, IsPlcs W.heap.size W v l ∧ ∀ x ∈ l, x.mod.fits := by
  obtain ⟨a, ln, cp, rfl⟩ := okWide_slice Tryz.underlying25 hv
  obtain ⟨fuel, hf⟩ := h
  have _ : Inhabited PV := ⟨⟨⟨⟨#[]⟩, 0, 0, ⟨#[]⟩, [], [], []⟩, .slice none 0 0, .slice none 0 0, .slice none 0 0, 0⟩⟩
  obtain ⟨l, hL, gL⟩ := row_of_trod (α := PV) (cells := PV.cell) (good := fun x => PlcAt W.heap.size W x ∧ x.mod.fits) (c := .slice a ln cp) Tryz.underlying25 (sz := 8) (by kernel_rfl) (by decide) plc_of_trod hf
  exact ⟨l, ⟨hL, fun x hx => (gL x hx).1⟩, fun x hx => (gL x hx).2⟩
end

end Go.Proofs.YtppmihnbpmkbnadGreat

/- Kernels that came in. -/
namespace Go.Proofs.YtppmihnbpmkbnadGreat
open Go.ChangeShapes Go.WideShapes Go.ChangeAt Go.RowKit Go.PlainAid Go.Deep

set_option maxRecDepth 100000

section
variable {H : Type} {enc : TypeId × Value → H} {W : World} {spare : Nat → Bool} {held : Bool}

theorem open_kernel {v : Value} {d : DataW H} {ps : List MemPlace} {base : Nat} (hv : Value.okWide Tryz.prog W .any base 24 v) (h : DataW.Trod enc Tryz.prog W 0 spare held 24 v d ps) : ∃ K, IsKer W.heap.size W v K ∧ K.fits := by
  obtain ⟨cs, rfl, hcs⟩ := okWide_struct Tryz.underlying24 hv
  obtain ⟨fuel, hf⟩ := h
  obtain ⟨xs, m, _, _, hl, hlen, hf⟩ := DataW.trod_struct Tryz.underlying24 hf
  have hc3 : Tryz.prog.cellsOf 24 = 3 := by kernel_rfl
  obtain ⟨x0, x1, x2, rfl⟩ := list3 hlen
  rw [hc3] at hl
  obtain ⟨c0, c1, c2, hcl⟩ := list3 hl
  have hcs' : cs.toList = [c0, c1, c2] := hcl
  have hcA : cs = #[c0, c1, c2] := by rw [← Array.toArray_toList (xs := cs), hcs']
  subst hcA
  have f0 := hf 0 _ rfl
  have f1 := hf 1 _ rfl
  have f2 := hf 2 _ rfl
  obtain ⟨a, rfl⟩ := int_of_trod f0
  obtain ⟨b, rfl⟩ := int_of_trod f1
  have _ : Inhabited Exp := ⟨⟨⟨#[]⟩, 0⟩⟩
  obtain ⟨es, hE, gE⟩ := row_of_trod (cells := Exp.cell) Tryz.underlying22 (sz := 2) (by kernel_rfl) (by decide) exp_of_trod f2
  exact ⟨⟨a, b, es⟩, ⟨c2, rfl, hE⟩, gE⟩

end

end Go.Proofs.YtppmihnbpmkbnadGreat
