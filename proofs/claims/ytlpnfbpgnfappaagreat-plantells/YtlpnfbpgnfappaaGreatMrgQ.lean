/- Texts that are laid together. -/
import Derived.Test.YtlpnfbpgnfappaaGreatMrgP
import Derived.Test.YtlpnfbpgnfappaaGreatMrgF
import Derived.Test.YtlpnfbpgnfappaaGreatMrgC
import Derived.Lib.QuietBelow
import Derived.Test.YtlpnfbpgnfappaaGreatMrgJ
import Derived.Test.YtlpnfbpgnfappaaGreatMrgK
import Derived.Test.YtlpnfbpgnfappaaGreatMrgL
import Derived.Test.YtlpnfbpgnfappaaGreatMrgO
import Derived.Test.YtlpnfbpgnfappaaGreatMrgN
import Derived.Test.YtlpnfbpgnfappaaGreatMrgG
import Derived.BigQuiet

/- The contract of the statements' with: one more among placed modules, where it belongs. Printed by genpt.py. -/
namespace Go.Proofs.YtlpnfbpgnfappaaGreat
open Go.RowKit Go.PlainAid Go.Lib

set_option maxRecDepth 100000

/-- One more, ahead of those that lie behind it. -/
def putV : List PV → PV → List PV
  | [], x => [x]
  | p :: r, x => if x.first < p.first then x :: p :: r else p :: putV r x
theorem putV_nil (x : PV) : putV [] x = [x] := rfl
theorem putV_lt {x p : PV} (r : List PV) (h : x.first < p.first) : putV (p :: r) x = x :: p :: r := if_pos h
theorem putV_ge {x p : PV} (r : List PV) (h : ¬ x.first < p.first) : putV (p :: r) x = p :: putV r x := if_neg h
theorem putV_map (x : PV) : ∀ l : List PV, (putV l x).map PV.plc = putAt (l.map PV.plc) x.plc
  | [] => rfl
  | p :: r => by
    by_cases h : x.first < p.first
    · rw [putV_lt r h]
      exact (if_pos h).symm
    · rw [putV_ge r h, List.map_cons, putV_map x r]
      exact (if_neg h).symm
theorem mem_putV {x y : PV} : ∀ {l : List PV}, y ∈ putV l x → y = x ∨ y ∈ l
  | [], h => .inl (by simpa [putV] using h)
  | p :: r, h => by
    by_cases g : x.first < p.first
    · rw [putV_lt r g] at h
      simpa using h
    · rw [putV_ge r g] at h
      rcases List.mem_cons.1 h with rfl | h
      · exact .inr (List.mem_cons_self ..)
      · rcases mem_putV h with h | h
        · exact .inl h
        · exact .inr (List.mem_cons_of_mem _ h)

set_option maxHeartbeats 16000000 in
theorem with_any (l : List PV) (v : Value) (M : Mod) (ve vi vp : Value) (first : Int) (w : World) (h : IsPlcs w.heap.size w v l) (hl : l.length ≤ 255) (hm : PlcAt w.heap.size w ⟨M, ve, vi, vp, first⟩) :
    Calls Tryz.prog 53 #[v, .agg #[.string M.name, .int .i64 M.major, .int .i64 M.minor, .string M.text, ve, vi, vp], .int .i64 first] w fun e w' => (∃ v', e = .returned v' ∧ IsPlcs w'.heap.size w' v' (putV l ⟨M, ve, vi, vp, first⟩)) ∧ Below w.heap.size w w' := by
  obtain ⟨ii, hii, hz0, hz1, hz2⟩ := infoPlc_parts
  have HAT : Hid (∀ x ∈ l, PlcAt w.heap.size w x) := h.2
  have HMP : Hid (PlcAt w.heap.size w ⟨M, ve, vi, vp, first⟩) := hm
  obtain ⟨⟨a, cap, rfl, -, hrow⟩, -⟩ := h
  obtain ⟨⟨qe, je, e4, -⟩, ⟨qi, ji, e5, -⟩, ⟨qp, jp, e6, -⟩⟩ := hm
  dsimp only at e4 e5 e6
  subst e4 e5 e6
  have HXN : Hid (∀ acc : List PV, (acc ++ [(⟨M, .slice qe M.exps.length je, .slice qi M.imps.length ji, .slice qp M.pats.length jp, first⟩ : PV)]).flatMap pvC = acc.flatMap pvC ++ [.string M.name, .int .i64 M.major, .int .i64 M.minor, .string M.text, .slice qe M.exps.length je, .slice qi M.imps.length ji, .slice qp M.pats.length jp, .int .i64 first]) := fun acc => by
    rw [List.flatMap_append]; simp [pvC]
  generalize hX : (⟨M, .slice qe M.exps.length je, .slice qi M.imps.length ji, .slice qp M.pats.length jp, first⟩ : PV) = X at *
  have hXf : X.first = first := by rw [← hX]
  have HXF : Hid (X.first = first) := hXf
  clear hX hXf
  generalize M.exps.length = lqe at *
  generalize M.imps.length = lqi at *
  generalize M.pats.length = lqp at *
  have B1 : Below w.heap.size w (w.alloc (.cells #[.string M.name, .int .i64 M.major, .int .i64 M.minor, .string M.text, .slice qe lqe je, .slice qi lqi ji, .slice qp lqp jp] 31)) := (Below.refl _ _).alloc (Nat.le_refl _) _
  have C1 : CellsAt (w.alloc (.cells #[.string M.name, .int .i64 M.major, .int .i64 M.minor, .string M.text, .slice qe lqe je, .slice qi lqi ji, .slice qp lqp jp] 31)) w.heap.size 31 #[.string M.name, .int .i64 M.major, .int .i64 M.minor, .string M.text, .slice qe lqe je, .slice qi lqi ji, .slice qp lqp jp] := CellsAt.new _ _ _
  go_enter Tryz.func53, Tryz.ntmps53
  go_wp2_with fail
  generalize (w.alloc (.cells #[.string M.name, .int .i64 M.major, .int .i64 M.minor, .string M.text, .slice qe lqe je, .slice qi lqi ji, .slice qp lqp jp] 31)) = w1 at *
  have HB1 : Hid (Below w.heap.size w w1) := B1
  have HC1 : Hid (CellsAt w1 w.heap.size 31 #[.string M.name, .int .i64 M.major, .int .i64 M.minor, .string M.text, .slice qe lqe je, .slice qi lqi ji, .slice qp lqp jp]) := C1
  clear B1 C1
  go_loopw [7, 8, 9] (fun o q i wr => ∃ (k : Nat) (acc : List PV) (p : Bool), k ≤ l.length ∧ i = .int .i64 k ∧ q = .bool p ∧ ((p = false → acc.length ≤ k) ∧ acc.length ≤ k + 1) ∧ Hid (putV l X = acc ++ (if p then l.drop k else putV (l.drop k) X)) ∧ wr.ownsRow w1.heap.size 57 8 o acc.length (acc.flatMap pvC) ∧ Below w1.heap.size w1 wr) (fun _ _ i _ => l.length - (intOf i).toNat)
  case atStart => exact ⟨0, [], false, Nat.zero_le _, rfl, rfl, ⟨fun _ => Nat.zero_le _, Nat.zero_le _⟩, rfl, ⟨rfl, .inl ⟨rfl, rfl⟩⟩, Below.refl _ _⟩
  case round =>
    obtain ⟨k, acc, p, hk, rfl, rfl, ⟨hacf, hacl⟩, HACC, hown, B⟩ := hrel
    have HBW : Hid (Below w.heap.size w wr) := HB1.out.trans (B.mono HB1.out.size)
    have hbs : w1.heap.size ≤ wr.heap.size := B.size
    have hb0 : w.heap.size < w1.heap.size := CellsAt.lt HC1.out
    by_cases hlt : k < l.length
    · obtain ⟨x, hx⟩ : ∃ x, l[k]? = some x := ⟨_, List.getElem?_eq_getElem hlt⟩
      have hdr := drop_at hx
      rcases hrow with h | ⟨b, off, rfl, hbn, hcells⟩
      · subst h; simp at hlt
      have hkl : (k : Int) < (l.length : Int) := by omega
      have HCX : Hid (∀ W, Below w.heap.size w W → ∀ i, i < 8 → W.cell? ⟨b, off + k * 8 + i, none⟩ = some (PV.cell x i)) := fun W hb i hi => (hb.cell (p := ⟨b, off + k * 8 + i, none⟩) hbn).trans (hcells k x hx i hi)
      have hpx := HAT.out x (List.mem_of_getElem? hx)
      obtain ⟨⟨pe, ke, e4, -⟩, ⟨pi, ki, e5, -⟩, ⟨pp, kp, e6, -⟩⟩ := hpx
      have HXC : Hid (∀ acc : List PV, (acc ++ [x]).flatMap pvC = acc.flatMap pvC ++ pvC x) := fun acc => by
        rw [List.flatMap_append]; simp
      have HALT : Hid ((p = true ∧ putV l X = (acc ++ [x]) ++ l.drop (k + 1)) ∨ (p = false ∧ first < x.first ∧ putV l X = (acc ++ [X] ++ [x]) ++ l.drop (k + 1)) ∨ (p = false ∧ ¬ first < x.first ∧ putV l X = (acc ++ [x]) ++ putV (l.drop (k + 1)) X)) := by
        show _ ∨ _
        have hp := HACC.out
        rw [hdr] at hp
        cases p
        · by_cases hf : X.first < x.first
          · refine .inr (.inl ⟨rfl, by rw [← HXF.out]; exact hf, ?_⟩)
            rw [if_neg (by decide), putV_lt _ hf] at hp
            rw [hp]; simp
          · refine .inr (.inr ⟨rfl, by rw [← HXF.out]; exact hf, ?_⟩)
            rw [if_neg (by decide), putV_ge _ hf] at hp
            rw [hp]; simp
        · refine .inl ⟨rfl, ?_⟩
          rw [if_pos rfl] at hp
          rw [hp]; simp
      clear HACC hdr
      obtain ⟨⟨N, xa, xi, T, es, is, ps⟩, vxe, vxi, vxp, fi⟩ := x
      dsimp only at e4 e5 e6
      subst e4 e5 e6
      clear hcells hx
      have HXC2 : Hid (pvC ⟨⟨N, xa, xi, T, es, is, ps⟩, .slice pe es.length ke, .slice pi is.length ki, .slice pp ps.length kp, fi⟩ = [.string N, .int .i64 xa, .int .i64 xi, .string T, .slice pe es.length ke, .slice pi is.length ki, .slice pp ps.length kp, .int .i64 fi]) := rfl
      generalize hle : es.length = le at *
      generalize hli : is.length = li at *
      generalize hlp : ps.length = lp at *
      obtain ⟨av, kv, rfl⟩ := own_form hown
      generalize ham : acc.length = m at *
      have HAM : Hid (acc.length = m) := ham
      clear ham
      rcases HALT.out with ⟨rfl, hput⟩ | ⟨rfl, hfi, hput⟩ | ⟨rfl, hfi, hput⟩
      · skip
        have HP : Hid _ := hput
        clear hput HALT
        have c0 := HCX.out wr HBW.out 0 (by omega)
        have c1 := HCX.out wr HBW.out 1 (by omega)
        have c2 := HCX.out wr HBW.out 2 (by omega)
        have c3 := HCX.out wr HBW.out 3 (by omega)
        have c4 := HCX.out wr HBW.out 4 (by omega)
        have c5 := HCX.out wr HBW.out 5 (by omega)
        have c6 := HCX.out wr HBW.out 6 (by omega)
        have c7 := HCX.out wr HBW.out 7 (by omega)
        dsimp only [PV.cell] at c0 c1 c2 c3 c4 c5 c6 c7
        rw [Nat.add_zero] at c0
        go_wp2_with (at_builtin; refine wpList_append_lies _ rfl _ _ _ rfl w1.heap.size 57 ii _ 8 128 Tryz.underlying25 hii hz0 hz1 hz2 rfl (by omega) (.slice av m kv) (m) (acc.flatMap pvC) rfl (hown.alloc _) ⟨wr.heap.size, 0, none⟩ 1 1 [.string N, .int .i64 xa, .int .i64 xi, .string T, .slice pe le ke, .slice pi li ki, .slice pp lp kp, .int .i64 fi] rfl rfl (World.news_of_block (cs := #[.string N, .int .i64 xa, .int .i64 xi, .string T, .slice pe le ke, .slice pi li ki, .slice pp lp kp, .int .i64 fi]) (t := 57) (fr := (0, 0)) (CellsAt.new wr 57 #[.string N, .int .i64 xa, .int .i64 xi, .string T, .slice pe le ke, .slice pi li ki, .slice pp lp kp, .int .i64 fi])) (by simp [Value.oneCell']) (by omega) (by unfold maxLen; omega) (by omega) (by simp; omega) (wr.heap.size + 1) (by simp) ?_; intro g8 gc8 w8 hown8 hgrow8 hat8 hltg8)
        refine ⟨⟨k + 1, _, true, by omega, by go_num, rfl, ?_, HP.out, ?_, ?_⟩, by simp [intOf]; omega⟩
        · rw [List.length_append, HAM.out]; simp; omega
        · rw [List.length_append, HXC.out, HXC2.out, HAM.out]
          exact hown8
        · exact (B.alloc B.size _).grown hgrow8 (by simp; omega) (fun j hj => own_block hown j hj)
      · have hff : decide ((first : Int) < fi) = true := decide_eq_true hfi
        have hff2 : decide ((fi : Int) > first) = true := decide_eq_true hfi
        have HP : Hid _ := hput
        clear hput HALT
        have c0 := HCX.out wr HBW.out 0 (by omega)
        have c1 := HCX.out wr HBW.out 1 (by omega)
        have c2 := HCX.out wr HBW.out 2 (by omega)
        have c3 := HCX.out wr HBW.out 3 (by omega)
        have c4 := HCX.out wr HBW.out 4 (by omega)
        have c5 := HCX.out wr HBW.out 5 (by omega)
        have c6 := HCX.out wr HBW.out 6 (by omega)
        have c7 := HCX.out wr HBW.out 7 (by omega)
        dsimp only [PV.cell] at c0 c1 c2 c3 c4 c5 c6 c7
        rw [Nat.add_zero] at c0
        have KB := HC1.out.below B HC1.out.lt
        have d0 := KB.cell 0
        have d1 := KB.cell 1
        have d2 := KB.cell 2
        have d3 := KB.cell 3
        have d4 := KB.cell 4
        have d5 := KB.cell 5
        have d6 := KB.cell 6
        have dl := KB.lt
        simp at d0 d1 d2 d3 d4 d5 d6
        clear KB
        go_upto_region 9 with (at_builtin; refine wpList_append_lies _ rfl _ _ _ rfl w1.heap.size 57 ii _ 8 128 Tryz.underlying25 hii hz0 hz1 hz2 rfl (by omega) (.slice av m kv) (m) (acc.flatMap pvC) rfl (hown.alloc _) ⟨wr.heap.size, 0, none⟩ 1 1 [.string M.name, .int .i64 M.major, .int .i64 M.minor, .string M.text, .slice qe lqe je, .slice qi lqi ji, .slice qp lqp jp, .int .i64 first] rfl rfl (World.news_of_block (cs := #[.string M.name, .int .i64 M.major, .int .i64 M.minor, .string M.text, .slice qe lqe je, .slice qi lqi ji, .slice qp lqp jp, .int .i64 first]) (t := 57) (fr := (0, 0)) (CellsAt.new wr 57 #[.string M.name, .int .i64 M.major, .int .i64 M.minor, .string M.text, .slice qe lqe je, .slice qi lqi ji, .slice qp lqp jp, .int .i64 first])) (by simp [Value.oneCell']) (by omega) (by unfold maxLen; omega) (by omega) (by simp; omega) (wr.heap.size + 1) (by simp) ?_; intro g8 gc8 w8 hown8 hgrow8 hat8 hltg8)
        have B8 : Below w1.heap.size w1 w8 := (B.alloc B.size _).grown hgrow8 (by simp; omega) (fun j hj => own_block hown j hj)
        have HBW8 : Hid (Below w.heap.size w w8) := HB1.out.trans (B8.mono HB1.out.size)
        have hbs8 : w1.heap.size ≤ w8.heap.size := B8.size
        clear c0 c1 c2 c3 c4 c5 c6 c7 d0 d1 d2 d3 d4 d5 d6 dl hgrow8 hat8 HBW
        have c0 := HCX.out w8 HBW8.out 0 (by omega)
        have c1 := HCX.out w8 HBW8.out 1 (by omega)
        have c2 := HCX.out w8 HBW8.out 2 (by omega)
        have c3 := HCX.out w8 HBW8.out 3 (by omega)
        have c4 := HCX.out w8 HBW8.out 4 (by omega)
        have c5 := HCX.out w8 HBW8.out 5 (by omega)
        have c6 := HCX.out w8 HBW8.out 6 (by omega)
        have c7 := HCX.out w8 HBW8.out 7 (by omega)
        dsimp only [PV.cell] at c0 c1 c2 c3 c4 c5 c6 c7
        rw [Nat.add_zero] at c0
        go_wp2_with (at_builtin; refine wpList_append_lies _ rfl _ _ _ rfl w1.heap.size 57 ii _ 8 128 Tryz.underlying25 hii hz0 hz1 hz2 rfl (by omega) (.slice (some ⟨g8, 0, none⟩) (m + 1) gc8) ((m + 1)) (acc.flatMap pvC ++ [.string M.name, .int .i64 M.major, .int .i64 M.minor, .string M.text, .slice qe lqe je, .slice qi lqi ji, .slice qp lqp jp, .int .i64 first]) rfl (hown8.alloc _) ⟨w8.heap.size, 0, none⟩ 1 1 [.string N, .int .i64 xa, .int .i64 xi, .string T, .slice pe le ke, .slice pi li ki, .slice pp lp kp, .int .i64 fi] rfl rfl (World.news_of_block (cs := #[.string N, .int .i64 xa, .int .i64 xi, .string T, .slice pe le ke, .slice pi li ki, .slice pp lp kp, .int .i64 fi]) (t := 57) (fr := (0, 0)) (CellsAt.new w8 57 #[.string N, .int .i64 xa, .int .i64 xi, .string T, .slice pe le ke, .slice pi li ki, .slice pp lp kp, .int .i64 fi])) (by simp [Value.oneCell']) (by omega) (by unfold maxLen; omega) (by omega) (by simp; omega) (w8.heap.size + 1) (by simp) ?_; intro g9 gc9 w9 hown9 hgrow9 hat9 hltg9)
        refine ⟨⟨k + 1, _, true, by omega, by go_num, rfl, ?_, HP.out, ?_, ?_⟩, by simp [intOf]; omega⟩
        · rw [List.length_append, List.length_append, HAM.out]; simp; have := hacf rfl; omega
        · rw [List.length_append, List.length_append, HXC.out, HXC2.out, HXN.out, HAM.out]
          exact hown9
        · exact (B8.alloc B8.size _).grown hgrow9 (by simp; omega) (fun j hj => own_block hown8 j hj)
      · have hff : decide ((first : Int) < fi) = false := decide_eq_false hfi
        have hff2 : decide ((fi : Int) > first) = false := decide_eq_false hfi
        have HP : Hid _ := hput
        clear hput HALT
        have c0 := HCX.out wr HBW.out 0 (by omega)
        have c1 := HCX.out wr HBW.out 1 (by omega)
        have c2 := HCX.out wr HBW.out 2 (by omega)
        have c3 := HCX.out wr HBW.out 3 (by omega)
        have c4 := HCX.out wr HBW.out 4 (by omega)
        have c5 := HCX.out wr HBW.out 5 (by omega)
        have c6 := HCX.out wr HBW.out 6 (by omega)
        have c7 := HCX.out wr HBW.out 7 (by omega)
        dsimp only [PV.cell] at c0 c1 c2 c3 c4 c5 c6 c7
        rw [Nat.add_zero] at c0
        go_wp2_with (at_builtin; refine wpList_append_lies _ rfl _ _ _ rfl w1.heap.size 57 ii _ 8 128 Tryz.underlying25 hii hz0 hz1 hz2 rfl (by omega) (.slice av m kv) (m) (acc.flatMap pvC) rfl (hown.alloc _) ⟨wr.heap.size, 0, none⟩ 1 1 [.string N, .int .i64 xa, .int .i64 xi, .string T, .slice pe le ke, .slice pi li ki, .slice pp lp kp, .int .i64 fi] rfl rfl (World.news_of_block (cs := #[.string N, .int .i64 xa, .int .i64 xi, .string T, .slice pe le ke, .slice pi li ki, .slice pp lp kp, .int .i64 fi]) (t := 57) (fr := (0, 0)) (CellsAt.new wr 57 #[.string N, .int .i64 xa, .int .i64 xi, .string T, .slice pe le ke, .slice pi li ki, .slice pp lp kp, .int .i64 fi])) (by simp [Value.oneCell']) (by omega) (by unfold maxLen; omega) (by omega) (by simp; omega) (wr.heap.size + 1) (by simp) ?_; intro g8 gc8 w8 hown8 hgrow8 hat8 hltg8)
        refine ⟨⟨k + 1, _, false, by omega, by go_num, rfl, ?_, HP.out, ?_, ?_⟩, by simp [intOf]; omega⟩
        · rw [List.length_append, HAM.out]; simp; have := hacf rfl; omega
        · rw [List.length_append, HXC.out, HXC2.out, HAM.out]
          exact hown8
        · exact (B.alloc B.size _).grown hgrow8 (by simp; omega) (fun j hj => own_block hown j hj)
    · obtain rfl : k = l.length := by omega
      have hlt' : ¬ ((l.length : Int) < (l.length : Int)) := by omega
      have hp := HACC.out
      rw [List.drop_length] at hp
      clear HACC
      have HROW : Hid (∀ (l' : List PV) r W, W.ownsRow w1.heap.size 57 8 r l'.length (l'.flatMap pvC) → l'.length ≤ 300 → Below w.heap.size w W → l' = putV l X → IsPlcs W.heap.size W r (putV l X)) := fun l' r W ho hl' hb he => by
        refine ⟨?_, fun y hy => ?_⟩
        · rw [← he]
          exact own_rows (C := pvC) (cells := PV.cell) (sz := 8) (fun _ => rfl) pvC_at ho (by omega)
        · rcases mem_putV hy with rfl | hy
          · exact (HMP.out.below hb).more hb.size
          · exact ((HAT.out y hy).below hb).more hb.size
      cases p
      · rw [if_neg (by decide), putV_nil] at hp
        have HP : Hid _ := hp
        clear hp
        obtain ⟨av, kv, rfl⟩ := own_form hown
        generalize ham : acc.length = m at *
        have HAM : Hid (acc.length = m) := ham
        clear ham
        have KB := HC1.out.below B HC1.out.lt
        have d0 := KB.cell 0
        have d1 := KB.cell 1
        have d2 := KB.cell 2
        have d3 := KB.cell 3
        have d4 := KB.cell 4
        have d5 := KB.cell 5
        have d6 := KB.cell 6
        have dl := KB.lt
        simp at d0 d1 d2 d3 d4 d5 d6
        clear KB
        go_wp2_with (at_builtin; refine wpList_append_lies _ rfl _ _ _ rfl w1.heap.size 57 ii _ 8 128 Tryz.underlying25 hii hz0 hz1 hz2 rfl (by omega) (.slice av m kv) (m) (acc.flatMap pvC) rfl (hown.alloc _) ⟨wr.heap.size, 0, none⟩ 1 1 [.string M.name, .int .i64 M.major, .int .i64 M.minor, .string M.text, .slice qe lqe je, .slice qi lqi ji, .slice qp lqp jp, .int .i64 first] rfl rfl (World.news_of_block (cs := #[.string M.name, .int .i64 M.major, .int .i64 M.minor, .string M.text, .slice qe lqe je, .slice qi lqi ji, .slice qp lqp jp, .int .i64 first]) (t := 57) (fr := (0, 0)) (CellsAt.new wr 57 #[.string M.name, .int .i64 M.major, .int .i64 M.minor, .string M.text, .slice qe lqe je, .slice qi lqi ji, .slice qp lqp jp, .int .i64 first])) (by simp [Value.oneCell']) (by omega) (by unfold maxLen; omega) (by omega) (by simp; omega) (wr.heap.size + 1) (by simp) ?_; intro g8 gc8 w8 hown8 hgrow8 hat8 hltg8)
        have B8 : Below w1.heap.size w1 w8 := (B.alloc B.size _).grown hgrow8 (by simp; omega) (fun j hj => own_block hown j hj)
        have HBW8 : Hid (Below w.heap.size w w8) := HB1.out.trans (B8.mono HB1.out.size)
        go_ret
        refine ⟨⟨_, rfl, HROW.out (acc ++ [X]) _ _ ?_ ?_ HBW8.out HP.out.symm⟩, HBW8.out⟩
        · rw [List.length_append, HXN.out, HAM.out]
          exact hown8
        · rw [List.length_append, HAM.out]; simp; omega
      · rw [if_pos rfl, List.append_nil] at hp
        have HP : Hid _ := hp
        have HOW : Hid _ := hown
        clear hp hown
        go_wp2
        go_ret
        exact ⟨⟨_, rfl, HROW.out acc _ _ HOW.out (by omega) HBW.out HP.out.symm⟩, HBW.out⟩

end Go.Proofs.YtlpnfbpgnfappaaGreat

/- The contracts of the document's SizeOf, CheckModules (whole), CheckRegions. -/
namespace Go.Proofs.YtlpnfbpgnfappaaGreat
open Go.RowKit Go.PlainAid

set_option maxRecDepth 100000

set_option maxHeartbeats 1000000 in
theorem sizeOf_any (N T : ByteArray) (ma mi : Int) (pe pi pp : Option Addr) (le ke li ki lp kp : Nat) (w : World) (hT : T.size ≤ 256) :
    Calls Tryz.prog 52 #[.agg #[.string N, .int .i64 ma, .int .i64 mi, .string T, .slice pe le ke, .slice pi li ki, .slice pp lp kp]] w fun e w' => e = .returned (.int .i64 (((T.size + 63) / 64 : Nat) : Int)) ∧ Below w.heap.size w w' := by
  have HB : Hid (Below w.heap.size w (w.alloc (.cells #[.string N, .int .i64 ma, .int .i64 mi, .string T, .slice pe le ke, .slice pi li ki, .slice pp lp kp] 31))) := (Below.refl _ _).alloc (Nat.le_refl _) _
  by_cases h : T.size % 64 = 0
  · have e1 : Hid (((T.size : Int)) / 64 = (((T.size + 63) / 64 : Nat) : Int)) := by show ((T.size : Int)) / 64 = (((T.size + 63) / 64 : Nat) : Int); omega
    have h1 : decide ((0 : Int) < (T.size : Int) % 64) = false := decide_eq_false (by omega)
    go_enter Tryz.func52, Tryz.ntmps52
    go_wp2
    go_ret
    refine ⟨?_, HB.out⟩
    show Ending.returned (.int .i64 ((T.size : Int) / 64)) = _
    rw [e1.out]
  · have e1 : Hid (((T.size : Int)) / 64 + 1 = (((T.size + 63) / 64 : Nat) : Int)) := by show ((T.size : Int)) / 64 + 1 = (((T.size + 63) / 64 : Nat) : Int); omega
    have h1 : (0 : Int) < (T.size : Int) % 64 := by omega
    go_enter Tryz.func52, Tryz.ntmps52
    go_wp2
    go_ret
    refine ⟨?_, HB.out⟩
    show Ending.returned (.int .i64 ((T.size : Int) / 64 + 1)) = _
    rw [e1.out]

set_option maxHeartbeats 2000000 in
theorem checkModules_whole (l : List PV) (v : Value) (w : World) (hrow : IsPlcs w.heap.size w v l) (hfit : ∀ x ∈ l, x.mod.fits) :
    Calls Tryz.prog 158 #[v, .bool true, .bool true] w fun e w' => e = .returned (.int .i64 (if 8 < l.length then 2 else chkBy outErr (l.map PV.plc))) ∧ Below w.heap.size w w' := by
  have HC0 : Hid (∀ x ∈ l, ∀ W, Below w.heap.size w W → Calls Tryz.prog 49 #[x.modV] W fun e w' => e = .returned (.int .i64 (chkMod x.mod)) ∧ Below W.heap.size W w') := fun x hx W hb => checkModule_any x.mod x.modV W (((hrow.2 x hx).below hb).more hb.size |>.isMod) (hfit x hx)
  have hat := hrow.2
  obtain ⟨⟨a, cap, rfl, _, hrow⟩, _⟩ := hrow
  by_cases h8 : 8 < l.length
  · rw [if_pos h8]
    have h8' : (8 : Int) < l.length := by omega
    clear HC0 hat hrow
    go_enter Tryz.func158, Tryz.ntmps158
    go_wp2
    go_ret
    exact ⟨rfl, Below.refl _ _⟩
  · rw [if_neg h8]
    have h8' : decide ((8 : Int) < l.length) = false := decide_eq_false (by omega)
    have h8'' : decide (8 < l.length) = false := decide_eq_false (by omega)
    go_enter Tryz.func158, Tryz.ntmps158
    go_wp2_with fail
    go_loopw [7] (fun i wr => ∃ (k : Nat), k ≤ l.length ∧ i = .int .i64 k ∧ Hid (chkBy outErr (l.map PV.plc) = chkBy outErr ((l.drop k).map PV.plc)) ∧ Below w.heap.size w wr) (fun i _ => l.length - (intOf i).toNat)
    case atStart => exact ⟨0, Nat.zero_le _, rfl, by show chkBy outErr (l.map PV.plc) = chkBy outErr ((l.drop 0).map PV.plc); rfl, Below.refl _ _⟩
    case round =>
      obtain ⟨k, hk, rfl, HC, B⟩ := hrel
      by_cases hlt : k < l.length
      · obtain ⟨x, hx⟩ : ∃ x, l[k]? = some x := ⟨_, List.getElem?_eq_getElem hlt⟩
        rcases hrow with h | ⟨b, off, rfl, hbn, hcells⟩
        · subst h; simp at hlt
        have key : (chkMod x.mod ≠ 0 ∧ chkBy outErr (x.plc :: (l.drop (k + 1)).map PV.plc) = chkMod x.mod) ∨ (chkMod x.mod = 0 ∧ betw x.first 0 (16 - (szM x.mod : Int)) = false ∧ chkBy outErr (x.plc :: (l.drop (k + 1)).map PV.plc) = 3) ∨ (chkMod x.mod = 0 ∧ betw x.first 0 (16 - (szM x.mod : Int)) = true ∧ chkBy outErr (x.plc :: (l.drop (k + 1)).map PV.plc) = chkBy outErr ((l.drop (k + 1)).map PV.plc)) := by
          have ho : outErr x.plc = if x.first < 0 ∨ 16 - (szM x.mod : Int) < x.first then 3 else 0 := rfl
          rcases chkBy_step outErr x.plc ((l.drop (k + 1)).map PV.plc) with ⟨h1, h2⟩ | ⟨h1, h2, h3⟩ | ⟨h1, h2, h3⟩
          · exact .inl ⟨h1, h2⟩
          · rw [ho] at h2 h3
            split at h2
            · rename_i hc
              rw [if_pos hc] at h3
              exact .inr (.inl ⟨h1, betw_false hc, h3⟩)
            · exact absurd rfl h2
          · rw [ho] at h2
            split at h2
            · exact absurd h2 (by decide)
            · rename_i hc
              exact .inr (.inr ⟨h1, betw_true (by omega) (by omega), h3⟩)
        have hsb : chkMod x.mod = 0 → szM x.mod ≤ 4 := fun h => (szM_bd h).2.1
        have HR : Hid (chkBy outErr (l.map PV.plc) = chkBy outErr (x.plc :: (l.drop (k + 1)).map PV.plc)) := by
          show chkBy outErr (l.map PV.plc) = _
          rw [HC.out, drop_at hx]; rfl
        have HM : Hid (∀ W, Below w.heap.size w W → Calls Tryz.prog 49 #[x.modV] W fun e w' => e = .returned (.int .i64 (chkMod x.mod)) ∧ Below W.heap.size W w') := HC0.out x (List.mem_of_getElem? hx)
        have HS : Hid (chkMod x.mod = 0 → ∀ W, Calls Tryz.prog 52 #[x.modV] W fun e w' => e = .returned (.int .i64 (szM x.mod : Int)) ∧ Below W.heap.size W w') := by
          intro h0 W
          obtain ⟨⟨pe, ke, e4, _⟩, ⟨pi, ki, e5, _⟩, ⟨pp, kp, e6, _⟩⟩ := hat x (List.mem_of_getElem? hx)
          unfold PV.modV
          rw [e4, e5, e6]
          exact sizeOf_any _ _ _ _ _ _ _ _ _ _ _ _ _ _ (szM_bd h0).2.2.1
        obtain ⟨⟨pe, ke, e4, _⟩, ⟨pi, ki, e5, _⟩, ⟨pp, kp, e6, _⟩⟩ := hat x (List.mem_of_getElem? hx)
        generalize hsz : szM x.mod = sz at *
        generalize hcm : chkMod x.mod = cm at *
        obtain ⟨⟨N, ma, mi, T, es, is, ps⟩, ve, vi, vp, fi⟩ := x
        dsimp only at e4 e5 e6
        subst e4 e5 e6
        have c0 := (B.cell (p := ⟨b, off + k * 8 + 0, none⟩) hbn).trans (hcells k _ hx 0 (by omega))
        have c1 := (B.cell (p := ⟨b, off + k * 8 + 1, none⟩) hbn).trans (hcells k _ hx 1 (by omega))
        have c2 := (B.cell (p := ⟨b, off + k * 8 + 2, none⟩) hbn).trans (hcells k _ hx 2 (by omega))
        have c3 := (B.cell (p := ⟨b, off + k * 8 + 3, none⟩) hbn).trans (hcells k _ hx 3 (by omega))
        have c4 := (B.cell (p := ⟨b, off + k * 8 + 4, none⟩) hbn).trans (hcells k _ hx 4 (by omega))
        have c5 := (B.cell (p := ⟨b, off + k * 8 + 5, none⟩) hbn).trans (hcells k _ hx 5 (by omega))
        have c6 := (B.cell (p := ⟨b, off + k * 8 + 6, none⟩) hbn).trans (hcells k _ hx 6 (by omega))
        have q0 := hcells k _ hx 0 (by omega)
        have q1 := hcells k _ hx 1 (by omega)
        have q2 := hcells k _ hx 2 (by omega)
        have q3 := hcells k _ hx 3 (by omega)
        have q4 := hcells k _ hx 4 (by omega)
        have q5 := hcells k _ hx 5 (by omega)
        have q6 := hcells k _ hx 6 (by omega)
        have q7 := hcells k _ hx 7 (by omega)
        dsimp only [PV.cell, PV.modV] at c0 c1 c2 c3 c4 c5 c6 q0 q1 q2 q3 q4 q5 q6 q7 HM HS
        rw [Nat.add_zero] at c0 q0
        clear HC HC0 hcells hx hat hsz hcm
        dsimp only at key
        generalize chkBy outErr (PV.plc ⟨⟨N, ma, mi, T, es, is, ps⟩, .slice pe es.length ke, .slice pi is.length ki, .slice pp ps.length kp, fi⟩ :: (l.drop (k + 1)).map PV.plc) = R at key HR
        generalize es.length = le at *
        generalize is.length = li at *
        generalize ps.length = lp at *
        go_wp2_with fail
        refine (HM.out _ B).mono ?_
        rintro e w2 ⟨rfl, b2⟩
        have B2 := B.trans (b2.mono B.size)
        clear b2 c0 c1 c2 c3 c4 c5 c6 HM
        rcases key with ⟨h1, rfl⟩ | ⟨rfl, h2, rfl⟩ | ⟨rfl, h2, rfl⟩
        · have h1' : (R != 0) = true := by simpa using h1
          go_wp2
          go_ret
          exact ⟨by rw [HR.out]; rfl, B2⟩
        all_goals
          have c0 := (B2.cell (p := ⟨b, off + k * 8, none⟩) hbn).trans q0
          have c1 := (B2.cell (p := ⟨b, off + k * 8 + 1, none⟩) hbn).trans q1
          have c2 := (B2.cell (p := ⟨b, off + k * 8 + 2, none⟩) hbn).trans q2
          have c3 := (B2.cell (p := ⟨b, off + k * 8 + 3, none⟩) hbn).trans q3
          have c4 := (B2.cell (p := ⟨b, off + k * 8 + 4, none⟩) hbn).trans q4
          have c5 := (B2.cell (p := ⟨b, off + k * 8 + 5, none⟩) hbn).trans q5
          have c6 := (B2.cell (p := ⟨b, off + k * 8 + 6, none⟩) hbn).trans q6
          have hs4 : sz ≤ 4 := by first | exact hsb rfl | exact hsb trivial | exact hsb
          clear q0 q1 q2 q3 q4 q5 q6 hsb
          go_wp2_with fail
          refine (HS.out (by first | rfl | trivial) _).mono ?_
          rintro e w3 ⟨rfl, b3⟩
          have B3 := B2.trans (b3.mono B2.size)
          have X7 := (B3.cell (p := ⟨b, off + k * 8 + 7, none⟩) hbn).trans q7
          clear b3 c0 c1 c2 c3 c4 c5 c6 q7 HS
        · go_wp2_with (go_at_call 109; refine (between_any _ _ _ _).mono ?_; rintro e w' ⟨rfl, rfl⟩)
          go_ret
          exact ⟨by rw [HR.out]; rfl, B3⟩
        · go_wp2_with (go_at_call 109; refine (between_any _ _ _ _).mono ?_; rintro e w' ⟨rfl, rfl⟩)
          exact ⟨⟨k + 1, by omega, by go_num, HR.out, B3⟩, by simp [intOf]; omega⟩
      · obtain rfl : k = l.length := by omega
        have HZ : Hid (chkBy outErr (l.map PV.plc) = 0) := by
          show chkBy outErr (l.map PV.plc) = 0
          rw [HC.out, List.drop_length]; rfl
        go_wp2
        go_ret
        exact ⟨by rw [HZ.out]; rfl, B⟩

end Go.Proofs.YtlpnfbpgnfappaaGreat

/- The contract of the document's CheckRegions. -/
namespace Go.Proofs.YtlpnfbpgnfappaaGreat
open Go.RowKit Go.PlainAid

set_option maxRecDepth 100000

set_option maxHeartbeats 4000000 in
theorem checkRegions_any (l : List PV) (v : Value) (w : World) (hrow : IsPlcs w.heap.size w v l) (hfit : ∀ x ∈ l, x.mod.fits) :
    Calls Tryz.prog 104 #[v] w fun e w' => e = .returned (.int .i64 (chkReg (l.map PV.plc))) ∧ Below w.heap.size w w' := by
  have HC : Hid (∀ W, Below w.heap.size w W → Calls Tryz.prog 158 #[v, .bool true, .bool true] W fun e w' => e = .returned (.int .i64 (if 8 < l.length then 2 else chkBy outErr (l.map PV.plc))) ∧ Below W.heap.size W w') := fun W hb => checkModules_whole l v W ((hrow.below hb).more hb.size) hfit
  have hat := hrow.2
  obtain ⟨⟨a, cap, rfl, hmax, hrow⟩, _⟩ := hrow
  have key := chkReg_cases (l.map PV.plc)
  rw [List.length_map] at key
  have hall : (∀ p ∈ l.map PV.plc, chkMod p.mod = 0 ∧ 0 ≤ p.first ∧ p.first + szM p.mod ≤ 16) → ∀ x ∈ l, x.mod.text.size ≤ 256 ∧ 0 ≤ x.first ∧ x.first + szM x.mod ≤ 16 := by
    intro h x hx
    obtain ⟨h1, h2, h3⟩ := h x.plc (List.mem_map_of_mem hx)
    exact ⟨(szM_bd h1).2.2.1, h2, h3⟩
  generalize chkReg (l.map PV.plc) = R at *
  generalize (if 8 < l.length then (2 : Int) else chkBy outErr (l.map PV.plc)) = cp at *
  go_enter Tryz.func104, Tryz.ntmps104
  go_wp2_with fail
  refine (HC.out w (Below.refl _ _)).mono ?_
  rintro e w2 ⟨rfl, B2⟩
  clear HC
  rcases key with ⟨h0, rfl⟩ | ⟨rfl, h0, rfl⟩
  · have h0' : (R != 0) = true := by simpa using h0
    clear hall hrow hat
    go_wp2
    go_ret
    exact ⟨rfl, B2⟩
  · have hx0 := hall h0
    clear hall h0
    go_wp2_with fail
    go_loopw [4] (fun i wr => ∃ (k m : Nat), i = .int .i64 k ∧ Hid (k = m + 1) ∧ ((l = [] ∧ m = 0) ∨ ∃ x, l[m]? = some x ∧ Hid (behind 0 (l.map PV.plc) = behind (x.first + szM x.mod) ((l.drop (m + 1)).map PV.plc))) ∧ Below w.heap.size w wr) (fun i _ => l.length + 1 - (intOf i).toNat)
    case atStart =>
      refine ⟨1, 0, rfl, (rfl : 1 = 0 + 1), ?_, B2⟩
      cases l with
      | nil => exact .inl ⟨rfl, rfl⟩
      | cons x l =>
        refine .inr ⟨x, rfl, ?_⟩
        show behind 0 ((x :: l).map PV.plc) = behind (x.first + szM x.mod) (((x :: l).drop (0 + 1)).map PV.plc)
        have h1 : behind 0 ((x :: l).map PV.plc) = (!decide (x.first < 0) && behind (x.first + szM x.mod) (l.map PV.plc)) := rfl
        have h2 := (hx0 x (by simp)).2.1
        rw [h1, decide_eq_false (by omega)]
        rfl
    case round =>
      obtain ⟨k, m, rfl, HK, hm, B⟩ := hrel
      rcases hm with ⟨rfl, rfl⟩ | ⟨x, hx, HC⟩
      · obtain rfl : k = 1 := HK.out
        go_wp2
        go_ret
        exact ⟨rfl, B⟩
      · have hml : m < l.length := (List.getElem?_eq_some_iff.1 hx).1
        by_cases hlt : k < l.length
        · obtain ⟨y, hy⟩ : ∃ y, l[k]? = some y := ⟨_, List.getElem?_eq_getElem hlt⟩
          rcases hrow with h | ⟨b, off, rfl, hbn, hcells⟩
          · subst h; simp at hlt
          have HR : Hid (behind 0 (l.map PV.plc) = (!decide (y.first < x.first + szM x.mod) && behind (y.first + szM y.mod) ((l.drop (k + 1)).map PV.plc))) := by
            show behind 0 (l.map PV.plc) = _
            rw [HC.out, ← HK.out, drop_at hy]; rfl
          have hxx := hx0 x (List.mem_of_getElem? hx)
          have HS : Hid (∀ W, Calls Tryz.prog 52 #[x.modV] W fun e w' => e = .returned (.int .i64 (szM x.mod : Int)) ∧ Below W.heap.size W w') := by
            intro W
            obtain ⟨⟨pe, ke, e4, _⟩, ⟨pi, ki, e5, _⟩, ⟨pp, kp, e6, _⟩⟩ := hat x (List.mem_of_getElem? hx)
            unfold PV.modV
            rw [e4, e5, e6]
            exact sizeOf_any _ _ _ _ _ _ _ _ _ _ _ _ _ _ hxx.1
          obtain ⟨⟨pe, ke, e4, _⟩, ⟨pi, ki, e5, _⟩, ⟨pp, kp, e6, _⟩⟩ := hat x (List.mem_of_getElem? hx)
          have d7 := (B.cell (p := ⟨b, off + k * 8 + 7, none⟩) hbn).trans (hcells k _ hy 7 (by omega))
          have HY : Hid (l[k]? = some y) := hy
          clear hy
          generalize hyf : y.first = yf at *
          generalize hsz : szM x.mod = sz at *
          obtain ⟨⟨N, ma, mi, T, es, is, ps⟩, ve, vi, vp, fi⟩ := x
          dsimp only at e4 e5 e6
          subst e4 e5 e6
          have c0 := (B.cell (p := ⟨b, off + m * 8 + 0, none⟩) hbn).trans (hcells m _ hx 0 (by omega))
          have c1 := (B.cell (p := ⟨b, off + m * 8 + 1, none⟩) hbn).trans (hcells m _ hx 1 (by omega))
          have c2 := (B.cell (p := ⟨b, off + m * 8 + 2, none⟩) hbn).trans (hcells m _ hx 2 (by omega))
          have c3 := (B.cell (p := ⟨b, off + m * 8 + 3, none⟩) hbn).trans (hcells m _ hx 3 (by omega))
          have c4 := (B.cell (p := ⟨b, off + m * 8 + 4, none⟩) hbn).trans (hcells m _ hx 4 (by omega))
          have c5 := (B.cell (p := ⟨b, off + m * 8 + 5, none⟩) hbn).trans (hcells m _ hx 5 (by omega))
          have c6 := (B.cell (p := ⟨b, off + m * 8 + 6, none⟩) hbn).trans (hcells m _ hx 6 (by omega))
          have c7 := (B.cell (p := ⟨b, off + m * 8 + 7, none⟩) hbn).trans (hcells m _ hx 7 (by omega))
          dsimp only [PV.cell] at c0 c1 c2 c3 c4 c5 c6 c7 d7
          dsimp only [PV.modV] at HS
          dsimp only at hxx HR
          rw [Nat.add_zero] at c0
          rw [hyf] at d7
          clear HC hcells hx hat hsz hx0
          obtain ⟨_, hf0, hf1⟩ := hxx
          generalize es.length = le at *
          generalize is.length = li at *
          generalize ps.length = lp at *
          have t0 := cell_regrown c0
          have t1 := cell_regrown c1
          have t2 := cell_regrown c2
          have t3 := cell_regrown c3
          have t4 := cell_regrown c4
          have t5 := cell_regrown c5
          have t6 := cell_regrown c6
          have t7 := cell_regrown c7
          have s7 := cell_regrown d7
          clear c0 c1 c2 c3 c4 c5 c6 c7 d7
          have hbd : l.length ≤ 9223372036854775807 := hmax
          have i0 : IntKind.i64.wrap ((k : Int) - 1) = (m : Int) := by have := HK.out; rw [i64_is]; unfold wrap64; omega
          have i1 : IntKind.i64.wrap (fi + (sz : Int)) = fi + (sz : Int) := by rw [i64_is]; unfold wrap64; omega
          by_cases hb : yf < fi + sz
          · have HZ : Hid (behind 0 (l.map PV.plc) = false) := by
              show behind 0 (l.map PV.plc) = false
              rw [HR.out, decide_eq_true hb]; rfl
            clear HR
            go_wp2_with fail
            refine wp_region_quiet_below (by kernel_rfl) (by kernel_rfl) ?_
            repeat (quiet_step ((go_at_call 52; go_must (exact Calls.regrown_of (HS.out _)))))
            refine wpQuiet_nil ?_
            intro _ hw'
            obtain ⟨⟨dq, osq⟩, hw''⟩ := hw'
            have B5 := B.trans ((below_regrown wr dq osq).mono B.size)
            rw [← hw''] at B5
            clear hw'' t0 t1 t2 t3 t4 t5 t6 t7 s7 HS
            go_wp2
            go_ret
            exact ⟨by rw [HZ.out]; rfl, B5⟩
          · have hb' : decide (yf < fi + sz) = false := decide_eq_false hb
            have HZ : Hid (behind 0 (l.map PV.plc) = behind (y.first + szM y.mod) ((l.drop (k + 1)).map PV.plc)) := by
              show behind 0 (l.map PV.plc) = _
              rw [HR.out, hb', hyf]; rfl
            clear HR
            go_wp2_with fail
            refine wp_region_quiet_below (by kernel_rfl) (by kernel_rfl) ?_
            repeat (quiet_step ((go_at_call 52; go_must (exact Calls.regrown_of (HS.out _)))))
            refine wpQuiet_nil ?_
            intro _ hw'
            obtain ⟨⟨dq, osq⟩, hw''⟩ := hw'
            have B5 := B.trans ((below_regrown wr dq osq).mono B.size)
            rw [← hw''] at B5
            clear hw'' t0 t1 t2 t3 t4 t5 t6 t7 s7 HS
            go_wp2
            exact ⟨⟨k + 1, k, by go_num, (rfl : k + 1 = k + 1), .inr ⟨y, HY.out, HZ.out⟩, B5⟩, by simp [intOf]; omega⟩
        · have hlt' : decide ((k : Int) < l.length) = false := decide_eq_false (by omega)
          have HZ : Hid (behind 0 (l.map PV.plc) = true) := by
            show behind 0 (l.map PV.plc) = true
            rw [HC.out, List.drop_eq_nil_of_le (by have := HK.out; omega)]; rfl
          go_wp2
          go_ret
          exact ⟨by rw [HZ.out]; rfl, B⟩

end Go.Proofs.YtlpnfbpgnfappaaGreat

/- The contracts of the document's FreeOf and FitOf. -/
namespace Go.Proofs.YtlpnfbpgnfappaaGreat
open Go.RowKit Go.PlainAid

set_option maxRecDepth 100000

def usedArr (u : Nat → Bool) : Array Value := ((List.range 16).map fun j => Value.bool (u j)).toArray
theorem usedArr_get (u : Nat → Bool) {i : Nat} (hi : i < 16) : (usedArr u)[i]? = some (.bool (u i)) := by
  unfold usedArr
  simp [hi]
theorem usedArr_size (u : Nat → Bool) : (usedArr u).size = 16 := by simp [usedArr]
theorem usedArr_set (u : Nat → Bool) (i : Nat) : (usedArr u).setIfInBounds i (.bool true) = usedArr (fun j => decide (j = i) || u j) := by
  apply Array.ext_getElem?
  intro j
  rw [Array.getElem?_setIfInBounds, usedArr_size]
  by_cases hj : j < 16
  · rw [usedArr_get _ hj, usedArr_get _ hj]
    by_cases h : i = j
    · subst h
      rw [if_pos rfl, if_pos hj]
      simp
    · rw [if_neg h, decide_eq_false (fun h3 => h h3.symm)]
      rfl
  · have h1 : (usedArr fun j => decide (j = i) || u j)[j]? = none := by rw [Array.getElem?_eq_none]; rw [usedArr_size]; omega
    have h2 : (usedArr u)[j]? = none := by rw [Array.getElem?_eq_none]; rw [usedArr_size]; omega
    rw [h1, h2]
    by_cases h : i = j
    · subst h
      rw [if_pos rfl, if_neg hj]
    · rw [if_neg h]

theorem own_set {W : World} {base : Nat} {e : TypeId} {size : Nat} {g n cap : Nat} {xs : List Value} (h : W.ownsRow base e size (.slice (some ⟨g, 0, none⟩) n cap) n xs) (i : Nat) (u : Value) : (W.setCell ⟨g, i, none⟩ u).ownsRow base e size (.slice (some ⟨g, 0, none⟩) n cap) n (xs.set i u) := by
  obtain ⟨h1, ⟨h2, _⟩ | ⟨g', cap', cur, h2, hg, hc, hn, hm, hs, ht⟩⟩ := h
  · cases h2
  · injection h2 with h3 h4 h5
    injection h3 with h3
    injection h3 with h3
    subst h3 h5
    refine ⟨by rw [List.length_set]; exact h1, .inr ⟨g, cap, cur.setIfInBounds i u, rfl, hg, CellsAt.set i u hc, hn, hm, by simpa using hs, ?_⟩⟩
    rw [← ht, Array.toList_setIfInBounds, List.take_set]
theorem flat_set (pre : List (Int × Int)) (a b c : Int) : ((pre ++ [(a, b)]).flatMap runC).set (pre.length * 2 + 1) (.int .i64 c) = (pre ++ [(a, c)]).flatMap runC := by
  have hl : (pre.flatMap runC).length = pre.length * 2 := flat_len (C := runC) (sz := 2) (fun _ => rfl) pre
  rw [List.flatMap_append, List.flatMap_append, List.set_append_right _ _ (by omega), hl]
  have : pre.length * 2 + 1 - pre.length * 2 = 1 := by omega
  rw [this]
  rfl
theorem scan_last {u : Nat → Bool} : ∀ {i : Nat}, u i = false → ∃ pre a b, scan u (i + 1) = pre ++ [(a, b)] ∧ 0 ≤ b ∧ b ≤ (i : Int) + 1
  | 0, h => by
    refine ⟨[], 0, 1, ?_, by omega, by omega⟩
    show scanStep u 0 [] = _
    unfold scanStep
    rw [if_neg (by rw [h]; decide), if_neg (by omega)]
    rfl
  | i + 1, h => by
    have hs : scan u (i + 1 + 1) = scanStep u (i + 1) (scan u (i + 1)) := rfl
    rw [hs]
    unfold scanStep
    rw [if_neg (by rw [h]; decide)]
    cases hu : u i with
    | true =>
      rw [if_neg (by rintro ⟨_, h2⟩; rw [show i + 1 - 1 = i by omega, hu] at h2; cases h2)]
      exact ⟨_, _, _, rfl, by omega, by omega⟩
    | false =>
      rw [if_pos ⟨by omega, by rw [show i + 1 - 1 = i by omega]; exact hu⟩]
      obtain ⟨pre, a, b, h1, h2, h3⟩ := scan_last hu
      rw [h1, bump_snoc]
      exact ⟨pre, a, b + 1, rfl, by omega, by omega⟩
theorem scan_len (u : Nat → Bool) : ∀ i, (scan u i).length ≤ i
  | 0 => Nat.le_refl _
  | i + 1 => by
    have := scan_len u i
    have hs : scan u (i + 1) = scanStep u i (scan u i) := rfl
    rw [hs]
    unfold scanStep
    split
    · omega
    · split
      · rcases List.eq_nil_or_concat (scan u i) with h | ⟨pre, ⟨a, b⟩, h⟩
        · rw [h]; simp [bump]
        · rw [h, List.concat_eq_append, bump_snoc]
          rw [h, List.concat_eq_append] at this
          simp at this ⊢
          omega
      · simp
        omega
/-- What is marked: the first ones' sectors, and the first ones of this one. -/
theorem used_take {l : List PV} {k : Nat} {x : PV} (hx : l[k]? = some x) (n : Nat) : usedBy ((l.take (k + 1)).map PV.plc) n = (usedBy ((l.take k).map PV.plc) n || (decide (x.first ≤ (n : Int)) && decide ((n : Int) < x.first + szM x.mod))) := by
  rw [List.take_add_one, hx]
  unfold usedBy
  simp [PV.plc]

set_option maxHeartbeats 8000000 in
theorem freeOf_any (l : List PV) (v : Value) (w : World) (hrow : IsPlcs w.heap.size w v l) (h0 : chkReg (l.map PV.plc) = 0) :
    Calls Tryz.prog 113 #[v] w fun e w' => (∃ r, e = .returned r ∧ RowOf 2 runCell w'.heap.size w' r (runsFrom 0 (l.map PV.plc))) ∧ Below w.heap.size w w' := by
  have hat := hrow.2
  obtain ⟨⟨a, cap, rfl, hmax, hrow⟩, _⟩ := hrow
  obtain ⟨h8, hm0, hok⟩ := chkReg_zero.1 h0
  have hx0 : ∀ x ∈ l, x.mod.text.size ≤ 256 ∧ 0 ≤ x.first ∧ x.first + szM x.mod ≤ 16 := by
    intro x hx
    have h1 := okPl_first hok x.plc (List.mem_map_of_mem hx)
    exact ⟨(szM_bd (hm0 x.plc (List.mem_map_of_mem hx))).2.2.1, by exact h1.1, by exact h1.2.2⟩
  have HOK : Hid (okPl 0 (l.map PV.plc)) := hok
  clear h0 hm0 hok h8
  have C1 : CellsAt (w.alloc (.cells #[.bool false, .bool false, .bool false, .bool false, .bool false, .bool false, .bool false, .bool false, .bool false, .bool false, .bool false, .bool false, .bool false, .bool false, .bool false, .bool false] 188)) w.heap.size 188 (usedArr (fun _ => false)) := CellsAt.new _ _ _
  have B1 : Below w.heap.size w (w.alloc (.cells #[.bool false, .bool false, .bool false, .bool false, .bool false, .bool false, .bool false, .bool false, .bool false, .bool false, .bool false, .bool false, .bool false, .bool false, .bool false, .bool false] 188)) := (Below.refl _ _).alloc (Nat.le_refl _) _
  go_enter Tryz.func113, Tryz.ntmps113
  go_wp2_with fail
  generalize w.alloc (.cells #[.bool false, .bool false, .bool false, .bool false, .bool false, .bool false, .bool false, .bool false, .bool false, .bool false, .bool false, .bool false, .bool false, .bool false, .bool false, .bool false] 188) = w1 at C1 B1 ⊢
  go_loopw [4] (fun i wr => ∃ (k : Nat) (u : Nat → Bool), k ≤ l.length ∧ i = .int .i64 k ∧ Hid (∀ n, n < 16 → u n = usedBy ((l.take k).map PV.plc) n) ∧ CellsAt wr w.heap.size 188 (usedArr u) ∧ Below w.heap.size w wr) (fun i _ => l.length - (intOf i).toNat)
  case atStart => exact ⟨0, fun _ => false, Nat.zero_le _, rfl, by show ∀ n, n < 16 → false = usedBy ((l.take 0).map PV.plc) n; intro n _; rfl, C1, B1⟩
  case round =>
    obtain ⟨k, u, hk, rfl, HU, C, B⟩ := hrel
    by_cases hlt : k < l.length
    · obtain ⟨x, hx⟩ : ∃ x, l[k]? = some x := ⟨_, List.getElem?_eq_getElem hlt⟩
      rcases hrow with h | ⟨b, off, rfl, hbn, hcells⟩
      · subst h; simp at hlt
      have hxx := hx0 x (List.mem_of_getElem? hx)
      have HS : Hid (∀ W, Calls Tryz.prog 52 #[x.modV] W fun e w' => e = .returned (.int .i64 (szM x.mod : Int)) ∧ Below W.heap.size W w') := by
        intro W
        obtain ⟨⟨pe, ke, e4, _⟩, ⟨pi, ki, e5, _⟩, ⟨pp, kp, e6, _⟩⟩ := hat x (List.mem_of_getElem? hx)
        unfold PV.modV
        rw [e4, e5, e6]
        exact sizeOf_any _ _ _ _ _ _ _ _ _ _ _ _ _ _ hxx.1
      have HUT : Hid (∀ n, usedBy ((l.take (k + 1)).map PV.plc) n = (usedBy ((l.take k).map PV.plc) n || (decide (x.first ≤ (n : Int)) && decide ((n : Int) < x.first + szM x.mod)))) := used_take hx
      obtain ⟨⟨pe, ke, e4, _⟩, ⟨pi, ki, e5, _⟩, ⟨pp, kp, e6, _⟩⟩ := hat x (List.mem_of_getElem? hx)
      generalize hsz : szM x.mod = sz at *
      obtain ⟨⟨N, ma, mi, T, es, is, ps⟩, ve, vi, vp, fi⟩ := x
      dsimp only at e4 e5 e6
      subst e4 e5 e6
      have q0 := hcells k _ hx 0 (by omega)
      have q1 := hcells k _ hx 1 (by omega)
      have q2 := hcells k _ hx 2 (by omega)
      have q3 := hcells k _ hx 3 (by omega)
      have q4 := hcells k _ hx 4 (by omega)
      have q5 := hcells k _ hx 5 (by omega)
      have q6 := hcells k _ hx 6 (by omega)
      have q7 := hcells k _ hx 7 (by omega)
      dsimp only [PV.cell] at q0 q1 q2 q3 q4 q5 q6 q7
      dsimp only [PV.modV] at HS
      dsimp only at hxx HUT
      rw [Nat.add_zero] at q0
      clear hcells hx hat hsz hx0
      obtain ⟨_, hf0, hf1⟩ := hxx
      generalize es.length = le at *
      generalize is.length = li at *
      generalize ps.length = lp at *
      go_wp2_with fail
      go_loopw [5] (fun j wq => ∃ (m : Nat) (u' : Nat → Bool), m ≤ sz ∧ j = .int .i64 m ∧ Hid (∀ n, n < 16 → u' n = (usedBy ((l.take k).map PV.plc) n || (decide (fi ≤ (n : Int)) && decide ((n : Int) < fi + m)))) ∧ CellsAt wq w.heap.size 188 (usedArr u') ∧ Below w.heap.size w wq) (fun j _ => sz - (intOf j).toNat)
      case atStart =>
        refine ⟨0, u, Nat.zero_le _, rfl, ?_, C, B⟩
        show ∀ n, n < 16 → u n = (usedBy ((l.take k).map PV.plc) n || (decide (fi ≤ (n : Int)) && decide ((n : Int) < fi + (0 : Nat))))
        intro n hn
        rw [HU.out n hn]
        have : (decide (fi ≤ (n : Int)) && decide ((n : Int) < fi + (0 : Nat))) = false := by simp
        rw [this, Bool.or_false]
      case round =>
        obtain ⟨m, u', hm, rfl, HU', C', B'⟩ := hrel
        have c0 := (B'.cell (p := ⟨b, off + k * 8, none⟩) hbn).trans q0
        have c1 := (B'.cell (p := ⟨b, off + k * 8 + 1, none⟩) hbn).trans q1
        have c2 := (B'.cell (p := ⟨b, off + k * 8 + 2, none⟩) hbn).trans q2
        have c3 := (B'.cell (p := ⟨b, off + k * 8 + 3, none⟩) hbn).trans q3
        have c4 := (B'.cell (p := ⟨b, off + k * 8 + 4, none⟩) hbn).trans q4
        have c5 := (B'.cell (p := ⟨b, off + k * 8 + 5, none⟩) hbn).trans q5
        have c6 := (B'.cell (p := ⟨b, off + k * 8 + 6, none⟩) hbn).trans q6
        go_wp2_with fail
        refine (HS.out _).mono ?_
        rintro e w3 ⟨rfl, b3⟩
        have B3 := B'.trans (b3.mono B'.size)
        have C3 := C'.below b3 C'.lt
        clear c0 c1 c2 c3 c4 c5 c6 C' b3
        by_cases hms : m < sz
        · obtain ⟨n, hn⟩ : ∃ n : Nat, fi + (m : Int) = (n : Int) := ⟨(fi + m).toNat, by omega⟩
          have hn16 : n < 16 := by omega
          have d7 := (B3.cell (p := ⟨b, off + k * 8 + 7, none⟩) hbn).trans q7
          have t1 := (C3.cell n).trans (usedArr_get u' hn16)
          have t2 := C3.frozen n
          have HU2 : Hid (∀ j, j < 16 → (decide (j = n) || u' j) = (usedBy ((l.take k).map PV.plc) j || (decide (fi ≤ (j : Int)) && decide ((j : Int) < fi + ((m + 1 : Nat) : Int))))) := by
            intro j hj
            rw [HU'.out j hj]
            by_cases hjn : j = n
            · subst hjn
              have : (decide (fi ≤ (j : Int)) && decide ((j : Int) < fi + ((m + 1 : Nat) : Int))) = true := by simp; omega
              rw [this]
              simp
            · rw [decide_eq_false hjn, Bool.false_or]
              congr 1
              congr 1
              apply decide_eq_decide.2
              omega
          have HC4 : Hid (CellsAt (w3.setCell ⟨w.heap.size, n, none⟩ (.bool true)) w.heap.size 188 (usedArr (fun j => decide (j = n) || u' j))) := by
            have := CellsAt.set n (.bool true) C3
            rw [usedArr_set] at this
            exact this
          have HB4 : Hid (Below w.heap.size w (w3.setCell ⟨w.heap.size, n, none⟩ (.bool true))) := B3.setCell (Nat.le_refl _) _
          clear C3
          go_wp2
          exact ⟨⟨m + 1, _, by omega, by go_num, HU2.out, HC4.out, HB4.out⟩, by simp [intOf]; omega⟩
        · obtain rfl : m = sz := by omega
          have HU2 : Hid (∀ n, n < 16 → u' n = usedBy ((l.take (k + 1)).map PV.plc) n) := by
            intro n hn
            rw [HU'.out n hn, HUT.out]
          clear HU' HUT HU
          go_wp2
          exact ⟨⟨k + 1, u', by omega, by go_num, HU2.out, C3, B3⟩, by simp [intOf]; omega⟩
    · obtain rfl : k = l.length := by omega
      have HSC : Hid (scan u 16 = runsFrom 0 (l.map PV.plc)) := by
        have := scan_runs (u := u) (l := l.map PV.plc) (e := 0) HOK.out (.inl rfl) (fun j _ hj => by rw [HU.out j hj, List.take_length])
        rw [show scan u 0 = [] from rfl, List.nil_append] at this
        exact this
      obtain ⟨ii, hii, hz0, hz1, hz2⟩ := infoRun_parts
      clear HU HOK hx0
      go_wp2_with fail
      rename World => w5
      go_loopw [6, 7] (fun f i wr => ∃ (k : Nat), k ≤ 16 ∧ i = .int .i64 k ∧ wr.ownsRow w5.heap.size 48 2 f (scan u k).length ((scan u k).flatMap runC) ∧ Below w5.heap.size w5 wr) (fun _ i _ => 16 - (intOf i).toNat)
      case atStart => exact ⟨0, by omega, rfl, ⟨rfl, .inl ⟨rfl, rfl⟩⟩, Below.refl _ _⟩
      case round =>
        obtain ⟨k, hk, rfl, hown, Bq⟩ := hrel
        by_cases hk16 : k < 16
        · have Cq := C.below Bq C.lt
          have t0 := (Cq.cell k).trans (usedArr_get u hk16)
          have hlen := scan_len u k
          have hb5 : w5.heap.size ≤ wr.heap.size := Bq.size
          have HST : Hid (scan u (k + 1) = scanStep u k (scan u k)) := (rfl : scan u (k + 1) = scanStep u k (scan u k))
          have hdk : decide ((k : Int) < 16) = true := decide_eq_true (by omega)
          cases huk : u k with
          | true =>
            rw [huk] at t0
            have HNX : Hid (scan u (k + 1) = scan u k) := by
              show scan u (k + 1) = scan u k
              rw [HST.out]
              unfold scanStep
              rw [if_pos huk]
            obtain ⟨av, kv, rfl⟩ := own_form hown
            have HO : Hid (wr.ownsRow w5.heap.size 48 2 (.slice av (scan u k).length kv) (scan u (k + 1)).length ((scan u (k + 1)).flatMap runC)) := by
              show wr.ownsRow w5.heap.size 48 2 (.slice av (scan u k).length kv) (scan u (k + 1)).length ((scan u (k + 1)).flatMap runC)
              rw [HNX.out]
              exact hown
            clear hown HST huk Cq HNX
            generalize (scan u k).length = n at *
            go_wp2
            exact ⟨⟨k + 1, by omega, by go_num, HO.out, Bq⟩, by simp [intOf]; omega⟩
          | false =>
            rw [huk] at t0
            rcases Nat.eq_zero_or_pos k with hk0 | hkp
            · subst hk0
              have HNX : Hid (scan u (0 + 1) = scan u 0 ++ [(((0 : Nat) : Int), 1)]) := by
                show scan u (0 + 1) = _
                rw [HST.out]
                unfold scanStep
                rw [if_neg (by rw [huk]; decide), if_neg (by omega)]
              clear HST huk Cq
              have HN : Hid ((scan u 0).length = 0) := (rfl : (scan u 0).length = 0)
              have hown' : wr.ownsRow w5.heap.size 48 2 _ 0 ([] : List Value) := hown
              obtain ⟨av, kv, rfl⟩ := own_form hown'
              clear hown
              go_wp2_with (at_builtin; refine wpList_append_lies _ rfl _ _ _ rfl w5.heap.size 48 ii _ 2 16 Tryz.underlying44 hii hz0 hz1 hz2 rfl (by omega) (.slice av 0 kv) 0 [] rfl (hown'.alloc _) ⟨wr.heap.size, 0, none⟩ 1 1 [.int .i64 0, .int .i64 1] rfl rfl (World.news_of_block (cs := #[.int .i64 0, .int .i64 1]) (t := 48) (fr := (0, 0)) (CellsAt.new wr 48 #[.int .i64 0, .int .i64 1])) (by simp [Value.oneCell']) (by omega) (by unfold maxLen; omega) (by omega) (by simp; omega) (wr.heap.size + 1) (by simp) ?_; intro g gc w8 hown8 hgrow hat hltg)
              refine ⟨⟨1, by omega, by go_num, ?_, ?_⟩, by simp [intOf]⟩
              · rw [show scan u 1 = scan u 0 ++ [(((0 : Nat) : Int), 1)] from HNX.out]
                exact hown8
              · exact (Bq.alloc Bq.size _).grown hgrow (by simp; omega) (fun j hj => own_block hown' j hj)
            · obtain ⟨m, hkm⟩ : ∃ m, k = m + 1 := ⟨k - 1, by omega⟩
              have hm16 : m < 16 := by omega
              have t1 := (Cq.cell m).trans (usedArr_get u hm16)
              have hi0 : (k : Int) - 1 = (m : Int) := by omega
              have hkp' : (0 : Int) < (k : Int) := by omega
              have HKM : Hid (k = m + 1) := hkm
              clear hkm
              cases hum : u m with
              | true =>
                rw [hum] at t1
                have HNX : Hid (scan u (k + 1) = scan u k ++ [((k : Int), 1)]) := by
                  show scan u (k + 1) = _
                  rw [HST.out]
                  unfold scanStep
                  rw [if_neg (by rw [huk]; decide), if_neg (by rintro ⟨_, h2⟩; rw [show k - 1 = m by have := HKM.out; omega, hum] at h2; cases h2)]
                clear HST huk Cq hum
                generalize hacc : scan u k = acc at *
                clear hacc
                obtain ⟨n, hn⟩ : ∃ n, acc.length = n := ⟨_, rfl⟩
                have HN : Hid (acc.length = n) := hn
                rw [hn] at hown hlen
                clear hn
                obtain ⟨av, kv, rfl⟩ := own_form hown
                go_wp2_with (at_builtin; refine wpList_append_lies _ rfl _ _ _ rfl w5.heap.size 48 ii _ 2 16 Tryz.underlying44 hii hz0 hz1 hz2 rfl (by omega) (.slice av n kv) n (acc.flatMap runC) rfl (hown.alloc _) ⟨wr.heap.size, 0, none⟩ 1 1 [.int .i64 k, .int .i64 1] rfl rfl (World.news_of_block (cs := #[.int .i64 k, .int .i64 1]) (t := 48) (fr := (0, 0)) (CellsAt.new wr 48 #[.int .i64 k, .int .i64 1])) (by simp [Value.oneCell']) (by omega) (by unfold maxLen; omega) (by omega) (by simp; omega) (wr.heap.size + 1) (by simp) ?_; intro g gc w8 hown8 hgrow hat hltg)
                refine ⟨⟨k + 1, by omega, by go_num, ?_, ?_⟩, by simp [intOf]; omega⟩
                · rw [HNX.out, List.length_append, List.flatMap_append, HN.out]
                  exact hown8
                · exact (Bq.alloc Bq.size _).grown hgrow (by simp; omega) (fun j hj => own_block hown j hj)
              | false =>
                rw [hum] at t1
                obtain ⟨pre, pa, pb, hs1, hb0, hb1⟩ := scan_last hum
                rw [← HKM.out] at hs1
                have HNX : Hid (scan u (k + 1) = pre ++ [(pa, pb + 1)]) := by
                  show scan u (k + 1) = _
                  rw [HST.out]
                  unfold scanStep
                  rw [if_neg (by rw [huk]; decide), if_pos ⟨hkp, by rw [show k - 1 = m by have := HKM.out; omega]; exact hum⟩, hs1, bump_snoc]
                rw [hs1] at hown hlen
                clear HST huk Cq hum hs1
                rcases hown.2 with ⟨_, hz⟩ | ⟨g, cp, cur, hv, hg, hc, hn, hm, hsz, htk⟩
                · simp at hz
                subst hv
                have Cg : CellsAt wr g 48 cur := hc
                have hcell : wr.cell? ⟨g, pre.length * 2 + 1, none⟩ = some (.int .i64 pb) := by
                  have h1 : ((pre ++ [(pa, pb)]).flatMap runC)[pre.length * 2 + 1]? = some (.int .i64 pb) := by
                    have := flat_at (C := runC) (sz := 2) (fun _ => rfl) (pre ++ [(pa, pb)]) pre.length (pa, pb) 1 (by simp) (by omega)
                    rw [this]; rfl
                  have := hown.cells (g := g) rfl (pre.length * 2 + 1) _ h1
                  have hadd : (⟨g, 0, none⟩ : Addr).add (pre.length * 2 + 1) = ⟨g, pre.length * 2 + 1, none⟩ := by unfold Addr.add; split <;> simp_all
                  rw [hadd] at this
                  exact this
                have hfr := Cg.frozen (pre.length * 2 + 1)
                have HO : Hid ((wr.setCell ⟨g, pre.length * 2 + 1, none⟩ (.int .i64 (pb + 1))).ownsRow w5.heap.size 48 2 (.slice (some ⟨g, 0, none⟩) (pre ++ [(pa, pb)]).length cp) (scan u (k + 1)).length ((scan u (k + 1)).flatMap runC)) := by
                  have := own_set hown (pre.length * 2 + 1) (.int .i64 (pb + 1))
                  rw [flat_set] at this
                  show (wr.setCell ⟨g, pre.length * 2 + 1, none⟩ (.int .i64 (pb + 1))).ownsRow w5.heap.size 48 2 (.slice (some ⟨g, 0, none⟩) (pre ++ [(pa, pb)]).length cp) (scan u (k + 1)).length ((scan u (k + 1)).flatMap runC)
                  rw [HNX.out]
                  simpa using this
                have HB : Hid (Below w5.heap.size w5 (wr.setCell ⟨g, pre.length * 2 + 1, none⟩ (.int .i64 (pb + 1)))) := Bq.setCell hg _
                have hnl : ((pre ++ [(pa, pb)]).length : Int) - 1 = (pre.length : Int) := by simp
                have hnl2 : pre.length < (pre ++ [(pa, pb)]).length := by simp
                have hpl : (pre ++ [(pa, pb)]).length ≤ 16 := by omega
                clear hown Cg hc hn hm hsz htk HNX
                generalize (pre ++ [(pa, pb)]).length = n at *
                generalize pre.length = p at *
                go_wp2
                exact ⟨⟨k + 1, by omega, by go_num, HO.out, HB.out⟩, by simp [intOf]; omega⟩
        · obtain rfl : k = 16 := by omega
          obtain ⟨av, kv, rfl⟩ := own_form hown
          have HR : Hid (RowOf 2 runCell wr.heap.size wr (.slice av (scan u 16).length kv) (runsFrom 0 (l.map PV.plc))) := by
            have := own_rows (C := runC) (cells := runCell) (sz := 2) (fun _ => rfl) runC_at hown (Nat.le_trans (scan_len u 16) (by omega))
            show RowOf 2 runCell wr.heap.size wr (.slice av (scan u 16).length kv) (runsFrom 0 (l.map PV.plc))
            rw [HSC.out] at this ⊢
            exact this
          have HBB : Hid (Below w.heap.size w wr) := B.trans (Bq.mono B.size)
          clear hown
          go_wp2
          go_ret
          exact ⟨⟨_, rfl, HR.out⟩, HBB.out⟩

def fitRes (o : Option (Int × Int)) : Int := match o with | none => -1 | some r => r.1

set_option maxHeartbeats 2000000 in
theorem fitOf_any (l : List PV) (v : Value) (many : Int) (w : World) (hrow : IsPlcs w.heap.size w v l) (h0 : chkReg (l.map PV.plc) = 0) :
    Calls Tryz.prog 51 #[v, .int .i64 many] w fun e w' => e = .returned (.int .i64 (fitRes (fitOf many (runsFrom 0 (l.map PV.plc))))) ∧ Below w.heap.size w w' := by
  have HF : Hid (∀ W, Below w.heap.size w W → Calls Tryz.prog 113 #[v] W fun e w' => (∃ r, e = .returned r ∧ RowOf 2 runCell w'.heap.size w' r (runsFrom 0 (l.map PV.plc))) ∧ Below W.heap.size W w') := fun W hb => freeOf_any l v W ((hrow.below hb).more hb.size) h0
  obtain ⟨⟨a, cap, rfl, _, _⟩, _⟩ := hrow
  clear h0
  generalize runsFrom 0 (l.map PV.plc) = FR at *
  generalize l.length = ll at *
  go_enter Tryz.func51, Tryz.ntmps51
  go_wp2_with fail
  refine (HF.out w (Below.refl _ _)).mono ?_
  rintro e w1 ⟨⟨r, rfl, hR⟩, B1⟩
  clear HF
  obtain ⟨ar, kr, rfl, hml, hR⟩ := hR
  go_wp2_with fail
  go_loopw [6] (fun i wr => ∃ (k : Nat), k ≤ FR.length ∧ i = .int .i64 k ∧ Hid (fitOf many FR = fitOf many (FR.drop k)) ∧ wr = w1) (fun i _ => FR.length - (intOf i).toNat)
  case atStart => exact ⟨0, Nat.zero_le _, rfl, by show fitOf many FR = fitOf many (FR.drop 0); rfl, rfl⟩
  case round =>
    obtain ⟨k, hk, rfl, HC, rfl⟩ := hrel
    by_cases hlt : k < FR.length
    · obtain ⟨x, hx⟩ : ∃ x, FR[k]? = some x := ⟨_, List.getElem?_eq_getElem hlt⟩
      rcases hR with h | ⟨b, off, rfl, hbn, hcells⟩
      · subst h; simp at hlt
      have c0 := hcells k _ hx 0 (by omega)
      have c1 := hcells k _ hx 1 (by omega)
      have HR : Hid (fitOf many FR = if many ≤ x.2 then some x else fitOf many (FR.drop (k + 1))) := by
        show fitOf many FR = _
        rw [HC.out, drop_at hx]
        unfold fitOf
        rw [List.find?_cons]
        by_cases h : many ≤ x.2
        · rw [if_pos h, decide_eq_true h]
        · rw [if_neg h, decide_eq_false h]
      obtain ⟨x1, x2⟩ := x
      dsimp only [runCell] at c0 c1 HR
      rw [Nat.add_zero] at c0
      clear HC hcells hx
      by_cases h : many ≤ x2
      · have HZ : Hid (fitOf many FR = some (x1, x2)) := by
          show fitOf many FR = _
          rw [HR.out, if_pos h]
        clear HR
        go_wp2
        go_ret
        exact ⟨by rw [HZ.out]; rfl, B1⟩
      · have h' : decide (many ≤ x2) = false := decide_eq_false h
        have HZ : Hid (fitOf many FR = fitOf many (FR.drop (k + 1))) := by
          show fitOf many FR = _
          rw [HR.out, if_neg h]
        clear HR
        go_wp2
        exact ⟨⟨k + 1, by omega, by go_num, HZ.out, by first | rfl | trivial⟩, by simp [intOf]; omega⟩
    · obtain rfl : k = FR.length := by omega
      have HZ : Hid (fitOf many FR = none) := by
        show fitOf many FR = none
        rw [HC.out, List.drop_length]; rfl
      go_wp2
      go_ret
      exact ⟨by rw [HZ.out]; rfl, B1⟩

end Go.Proofs.YtlpnfbpgnfappaaGreat

/- What the document's InstallOf asks, as data. -/
namespace Go.Proofs.YtlpnfbpgnfappaaGreat
open Go.RowKit Go.PlainAid Go.Lib

theorem fit_ge {L : List Plc} {many : Int} {r : Int × Int} (h : chkReg L = 0) (hf : fitOf many (runsFrom 0 L) = some r) : 0 ≤ r.1 ∧ r.1 ≤ 100 := by
  have := runs_bd h r (List.mem_of_find?_eq_some hf)
  exact ⟨this.1, this.2.1⟩
/-- What comes of putting in, said by what the document asks. -/
theorem inst_doc (l : List PV) (M : Mod) (h0 : chkReg (l.map PV.plc) = 0) (h8 : l.length ≤ 8) :
    (chkMod M ≠ 0 ∧ instDo (l.map PV.plc) M = ([], chkMod M)) ∨
    (chkMod M = 0 ∧ (∃ j : Nat, ixFrom (fun x : PV => x.mod.name == M.name) 0 l = (j : Int)) ∧ instDo (l.map PV.plc) M = ([], 6)) ∨
    (chkMod M = 0 ∧ ixFrom (fun x : PV => x.mod.name == M.name) 0 l = -1 ∧ l.length = 8 ∧ instDo (l.map PV.plc) M = ([], 2)) ∨
    (chkMod M = 0 ∧ ixFrom (fun x : PV => x.mod.name == M.name) 0 l = -1 ∧ l.length ≠ 8 ∧ fitRes (fitOf (szM M) (runsFrom 0 (l.map PV.plc))) = -1 ∧ instDo (l.map PV.plc) M = ([], 8)) ∨
    (chkMod M = 0 ∧ ixFrom (fun x : PV => x.mod.name == M.name) 0 l = -1 ∧ l.length ≠ 8 ∧ ∃ f, 0 ≤ f ∧ fitRes (fitOf (szM M) (runsFrom 0 (l.map PV.plc))) = f ∧ instDo (l.map PV.plc) M = (putAt (l.map PV.plc) ⟨M, f⟩, 0)) := by
  rcases inst_cases l M h0 with ⟨h1, h2⟩ | ⟨h1, h2, h3⟩ | ⟨h1, h2, h3, h4⟩ | ⟨h1, h2, h3, h4, h5⟩ | ⟨h1, h2, h3, f, h4, h5⟩
  · exact .inl ⟨h1, h2⟩
  · exact .inr (.inl ⟨h1, h2, h3⟩)
  · exact .inr (.inr (.inl ⟨h1, h2, by omega, h4⟩))
  · have hs := szM_bd h1
    unfold firstRes at h4
    rw [if_neg (by omega), if_neg (by omega)] at h4
    refine .inr (.inr (.inr (.inl ⟨h1, h2, by omega, ?_, h5⟩)))
    cases hq : fitOf (szM M : Int) (runsFrom 0 (l.map PV.plc)) with
    | none => rfl
    | some r => rw [hq] at h4; have h5 : (0 : Int) = 8 := congrArg Prod.snd h4; omega
  · have hs := szM_bd h1
    unfold firstRes at h4
    rw [if_neg (by omega), if_neg (by omega)] at h4
    refine .inr (.inr (.inr (.inr ⟨h1, h2, by omega, f, ?_, ?_, h5⟩)))
    · cases hq : fitOf (szM M : Int) (runsFrom 0 (l.map PV.plc)) with
      | none => rw [hq] at h4; have h5 : (8 : Int) = 0 := congrArg Prod.snd h4; omega
      | some r =>
        rw [hq] at h4
        injection h4 with h4 _
        have := fit_ge h0 hq
        omega
    · cases hq : fitOf (szM M : Int) (runsFrom 0 (l.map PV.plc)) with
      | none => rw [hq] at h4; have h5 : (8 : Int) = 0 := congrArg Prod.snd h4; omega
      | some r =>
        rw [hq] at h4
        injection h4
/-- What planned answers of a registry that is right. -/
theorem planRes_zero {K : Ker} {L : List Plc} {D : List Plc × Int} (h : chkRg K L = 0) : planRes K L D = if D.2 ≠ 0 then ((emptyK, []), D.2) else if chkRg K D.1 ≠ 0 then ((emptyK, []), chkRg K D.1) else ((K, D.1), 0) := by
  unfold planRes
  rw [if_neg (by omega)]
theorem putV_fits {l : List PV} {X : PV} (h : ∀ x ∈ l, x.mod.fits) (hx : X.mod.fits) : ∀ y ∈ putV l X, y.mod.fits := fun y hy => by
  rcases mem_putV hy with rfl | hy
  · exact hx
  · exact h y hy

end Go.Proofs.YtlpnfbpgnfappaaGreat

/- The contracts of the document's CheckKernel, CheckModules, exportAt, PlaceOf. -/
namespace Go.Proofs.YtlpnfbpgnfappaaGreat
open Go.RowKit Go.PlainAid

set_option maxRecDepth 100000

set_option maxHeartbeats 1000000 in
theorem checkKernel_any (K : Ker) (v : Value) (w : World) (hK : IsKer w.heap.size w v K) (hf : K.fits) :
    Calls Tryz.prog 103 #[v] w fun e w' => e = .returned (.int .i64 (chkKer K)) ∧ Below w.heap.size w w' := by
  obtain ⟨ve, rfl, hE⟩ := hK
  have HE : Hid (∀ w', Below w.heap.size w w' → K.exps.length ≤ 8 → Calls Tryz.prog 110 #[ve, .int .i64 4096] w' fun e w'' => e = .returned (.int .i64 (chkExps 4096 [] K.exps)) ∧ Below w'.heap.size w' w'') :=
    fun w' hb hl => checkExports_any K.exps ve _ w' ((hE.below hb).more hb.size) hf hl (by decide) (by decide)
  obtain ⟨pe, ke, rfl, _, hE⟩ := hE
  clear hE hf
  have key : (betw K.major 0 255 = false ∧ chkKer K = 3) ∨ (betw K.major 0 255 = true ∧ betw K.minor 0 255 = false ∧ chkKer K = 3) ∨ (betw K.major 0 255 = true ∧ betw K.minor 0 255 = true ∧ 8 < K.exps.length ∧ chkKer K = 2) ∨ (betw K.major 0 255 = true ∧ betw K.minor 0 255 = true ∧ K.exps.length ≤ 8 ∧ chkKer K = chkExps 4096 [] K.exps) := by
    unfold chkKer isVer
    cases h1 : betw K.major 0 255
    · exact .inl ⟨rfl, rfl⟩
    cases h2 : betw K.minor 0 255
    · exact .inr (.inl ⟨rfl, rfl, rfl⟩)
    · by_cases h3 : 8 < K.exps.length
      · exact .inr (.inr (.inl ⟨rfl, rfl, h3, by rw [if_neg (by decide), if_pos h3]⟩))
      · exact .inr (.inr (.inr ⟨rfl, rfl, by omega, by rw [if_neg (by decide), if_neg h3]⟩))
  generalize chkKer K = R at *
  generalize chkExps 4096 [] K.exps = ce at *
  obtain ⟨ma, mi, es⟩ := K
  dsimp only at *
  generalize es.length = le at *
  have HW1 : Hid (Below w.heap.size w (w.alloc (.cells #[.int .i64 ma, .int .i64 mi, .slice pe le ke] 24))) := (Below.refl _ _).alloc (Nat.le_refl _) _
  rcases key with ⟨h1, rfl⟩ | ⟨h1, h2, rfl⟩ | ⟨h1, h2, h3, rfl⟩ | ⟨h1, h2, h3, rfl⟩
  · go_enter Tryz.func103, Tryz.ntmps103
    go_wp2_with (go_at_call 109; refine (between_any _ _ _ _).mono ?_; rintro e w' ⟨rfl, rfl⟩)
    go_ret
    exact ⟨rfl, HW1.out⟩
  · go_enter Tryz.func103, Tryz.ntmps103
    go_wp2_with (go_at_call 109; refine (between_any _ _ _ _).mono ?_; rintro e w' ⟨rfl, rfl⟩)
    go_ret
    exact ⟨rfl, HW1.out⟩
  · have h3' : (8 : Int) < le := by omega
    go_enter Tryz.func103, Tryz.ntmps103
    go_wp2_with (go_at_call 109; refine (between_any _ _ _ _).mono ?_; rintro e w' ⟨rfl, rfl⟩)
    go_ret
    exact ⟨rfl, HW1.out⟩
  · have h3' : decide ((8 : Int) < le) = false := decide_eq_false (by omega)
    have h3'' : decide (8 < le) = false := decide_eq_false (by omega)
    go_enter Tryz.func103, Tryz.ntmps103
    go_wp2_with (go_at_call 109; refine (between_any _ _ _ _).mono ?_; rintro e w' ⟨rfl, rfl⟩)
    refine (HE.out _ HW1.out h3).mono ?_
    rintro e w1 ⟨rfl, b1⟩
    go_wp2
    go_ret
    exact ⟨rfl, HW1.out.trans (b1.mono HW1.out.size)⟩

def posOf : Option Exp → Int
  | none => -1
  | some x => x.pos

set_option maxHeartbeats 1000000 in
theorem exportAt_any (l : List Exp) (v : Value) (name : ByteArray) (w : World) (hrow : RowOf 2 Exp.cell w.heap.size w v l) :
    Calls Tryz.prog 204 #[v, .string name] w fun e w' => e = .returned (.int .i64 (posOf (expOf l name))) ∧ Below w.heap.size w w' := by
  obtain ⟨a, cap, rfl, _, hrow⟩ := hrow
  go_enter Tryz.func204, Tryz.ntmps204
  go_wp2_with fail
  go_loopw [5] (fun i wr => ∃ (k : Nat), k ≤ l.length ∧ i = .int .i64 k ∧ Hid (expOf l name = expOf (l.drop k) name) ∧ Below w.heap.size w wr) (fun i _ => l.length - (intOf i).toNat)
  case atStart => exact ⟨0, Nat.zero_le _, rfl, by show expOf l name = expOf (l.drop 0) name; rfl, Below.refl _ _⟩
  case round =>
    obtain ⟨k, hk, rfl, HC, B⟩ := hrel
    by_cases hlt : k < l.length
    · obtain ⟨x, hx⟩ : ∃ x, l[k]? = some x := ⟨_, List.getElem?_eq_getElem hlt⟩
      rcases hrow with h | ⟨b, off, rfl, hbn, hcells⟩
      · subst h; simp at hlt
      have c0 := (B.cell (p := ⟨b, off + k * 2 + 0, none⟩) hbn).trans (hcells k _ hx 0 (by omega))
      have c1 := (B.cell (p := ⟨b, off + k * 2 + 1, none⟩) hbn).trans (hcells k _ hx 1 (by omega))
      dsimp only [Exp.cell] at c0 c1
      rw [Nat.add_zero] at c0
      have hC := HC.out
      rw [drop_at hx] at hC
      unfold expOf at hC
      rw [List.find?_cons] at hC
      cases hq : x.name == name
      · rw [hq] at hC
        have HR : Hid (expOf l name = expOf (l.drop (k + 1)) name) := hC
        clear hC HC hcells hx
        rw [← toList_beq2] at hq
        go_wp2
        exact ⟨⟨k + 1, by omega, by go_num, HR.out, B⟩, by simp [intOf]; omega⟩
      · rw [hq] at hC
        have HR : Hid (expOf l name = some x) := hC
        clear hC HC hcells hx
        rw [← toList_beq2] at hq
        go_wp2
        go_ret
        exact ⟨by rw [HR.out]; rfl, B⟩
    · obtain rfl : k = l.length := by omega
      have HZ : Hid (expOf l name = none) := by
        show expOf l name = none
        rw [HC.out, List.drop_length]; rfl
      go_wp2
      go_ret
      exact ⟨by rw [HZ.out]; rfl, B⟩

set_option maxHeartbeats 1000000 in
theorem placeOf_any (l : List PV) (v : Value) (name : ByteArray) (w : World) (hrow : RowOf 8 PV.cell w.heap.size w v l) :
    Calls Tryz.prog 50 #[v, .string name] w fun e w' => e = .returned (.int .i64 (idxFrom (fun x : PV => x.mod.name == name) 0 l)) ∧ Below w.heap.size w w' := by
  obtain ⟨a, cap, rfl, _, hrow⟩ := hrow
  have HST : Hid (∀ k x r, idxFrom (fun x : PV => x.mod.name == name) k (x :: r) = if (x.mod.name == name) = true then (k : Int) else idxFrom (fun x : PV => x.mod.name == name) (k + 1) r) := fun _ _ _ => rfl
  have HNL : Hid (∀ k, idxFrom (fun x : PV => x.mod.name == name) k [] = -1) := fun _ => rfl
  generalize idxFrom (fun x : PV => x.mod.name == name) = IX at *
  go_enter Tryz.func50, Tryz.ntmps50
  go_wp2_with fail
  go_loopw [5] (fun i wr => ∃ (k : Nat), k ≤ l.length ∧ i = .int .i64 k ∧ Hid (IX 0 l = IX k (l.drop k)) ∧ Below w.heap.size w wr) (fun i _ => l.length - (intOf i).toNat)
  case atStart => exact ⟨0, Nat.zero_le _, rfl, by show IX 0 l = IX 0 (l.drop 0); rfl, Below.refl _ _⟩
  case round =>
    obtain ⟨k, hk, rfl, HC, B⟩ := hrel
    by_cases hlt : k < l.length
    · obtain ⟨x, hx⟩ : ∃ x, l[k]? = some x := ⟨_, List.getElem?_eq_getElem hlt⟩
      rcases hrow with h | ⟨b, off, rfl, hbn, hcells⟩
      · subst h; simp at hlt
      have c0 := (B.cell (p := ⟨b, off + k * 8 + 0, none⟩) hbn).trans (hcells k _ hx 0 (by omega))
      dsimp only [PV.cell] at c0
      rw [Nat.add_zero] at c0
      have hC := HC.out
      rw [drop_at hx, HST.out] at hC
      cases hq : x.mod.name == name
      · rw [hq, if_neg (by decide)] at hC
        have HR : Hid (IX 0 l = IX (k + 1) (l.drop (k + 1))) := hC
        clear hC HC hcells hx
        rw [← toList_beq2] at hq
        go_wp2
        exact ⟨⟨k + 1, by omega, by go_num, HR.out, B⟩, by simp [intOf]; omega⟩
      · rw [hq, if_pos rfl] at hC
        have HR : Hid (IX 0 l = k) := hC
        clear hC HC hcells hx
        rw [← toList_beq2] at hq
        go_wp2
        go_ret
        exact ⟨by rw [HR.out]; rfl, B⟩
    · obtain rfl : k = l.length := by omega
      have HZ : Hid (IX 0 l = -1) := by
        show IX 0 l = -1
        rw [HC.out, List.drop_length, HNL.out]
      go_wp2
      go_ret
      exact ⟨by rw [HZ.out]; rfl, B⟩

end Go.Proofs.YtlpnfbpgnfappaaGreat

/- The contract of the statements' others, where all others are the same. -/
namespace Go.Proofs.YtlpnfbpgnfappaaGreat
open Go.RowKit Go.PlainAid Go.Lib Go.Sort Go.BigFrame

set_option maxRecDepth 100000

theorem idx_ix {α : Type} (p : α → Bool) : ∀ (q : List α) (k : Nat), idxFrom p k q = ixFrom p k q
  | [], _ => rfl
  | x :: q, k => by
    have h1 : idxFrom p k (x :: q) = if p x then (k : Int) else idxFrom p (k + 1) q := rfl
    have h2 : ixFrom p k (x :: q) = if p x then (k : Int) else ixFrom p (k + 1) q := rfl
    rw [h1, h2, idx_ix p q (k + 1)]

end Go.Proofs.YtlpnfbpgnfappaaGreat
