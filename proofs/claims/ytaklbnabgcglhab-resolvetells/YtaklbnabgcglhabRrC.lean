/- The contract of the document's AddressesOf. -/
import Derived.Test.YtaklbnabgcglhabRrB
import Derived.Lib.QuietBelow
namespace Go.Proofs.Ytaklbnabgcglhab
open Go.RowKit Go.PlainAid

set_option maxRecDepth 100000

set_option maxHeartbeats 4000000 in
theorem addressesOf_any (K : Ker) (vk : Value) (l : List PV) (v : Value) (M : Mod) (vm : Value) (w : World) (hK : IsKer w.heap.size w vk K) (hrow : IsPlcs w.heap.size w v l) (hM : IsMod w.heap.size w vm M) (h0 : chkFind K (l.map PV.plc) = 0) (hm0 : chkMod M = 0) :
    Calls Try.prog 22 #[vk, v, vm] w fun e w' => (∃ r, e = .returned (.tuple #[r, .int .i64 (addrsFrom K (l.map PV.plc) [] M.imps).2]) ∧ RowOf 1 intCell w'.heap.size w' r (addrsFrom K (l.map PV.plc) [] M.imps).1) ∧ Below w.heap.size w w' := by
  have HA : Hid (∀ (i : Imp) W, Below w.heap.size w W → Calls Try.prog 21 #[vk, v, .agg #[.string i.mod, .string i.name, .int .i64 i.major, .int .i64 i.minor]] W fun e w' => e = .returned (.tuple #[.int .i64 (addrOf K (l.map PV.plc) i).1, .int .i64 (addrOf K (l.map PV.plc) i).2]) ∧ Below W.heap.size W w') :=
    fun i W hb => addressOf_any K vk l v i W ((hK.below hb).more hb.size) ((hrow.below hb).more hb.size) h0
  obtain ⟨vke, rfl, hE⟩ := hK
  obtain ⟨pe, ke, rfl, _, _⟩ := hE
  obtain ⟨⟨a, cap, rfl, _, _⟩, _⟩ := hrow
  obtain ⟨me, mi', mp, rfl, hme, hmi, hmp⟩ := hM
  obtain ⟨qe, je, rfl, _, _⟩ := hme
  obtain ⟨qi, ji, rfl, _, hrowI⟩ := hmi
  obtain ⟨qp, jp, rfl, _, _⟩ := hmp
  have hm6 : M.imps.length ≤ 6 := (chkMod_exps hm0).2.2.2.1
  generalize hL : l.map PV.plc = L at *
  have HAD : Hid (∀ acc x r, addrsFrom K L acc (x :: r) = if (addrOf K L x).2 ≠ 0 then ([], (addrOf K L x).2) else addrsFrom K L (acc ++ [(addrOf K L x).1]) r) := fun _ _ _ => rfl
  have HAN : Hid (∀ acc, addrsFrom K L acc [] = (acc, 0)) := fun _ => rfl
  clear h0 hm0
  generalize addrsFrom K L = AF at *
  generalize addrOf K L = AO at *
  obtain ⟨ma, mi, es⟩ := K
  obtain ⟨N, xa, xi, T, xs, is, ps⟩ := M
  dsimp only at *
  clear hL L
  generalize es.length = le at *
  generalize xs.length = lx at *
  generalize ps.length = lp at *
  generalize l.length = ll at *
  have B5 : Below w.heap.size w ((w.alloc (.cells #[.int .i64 ma, .int .i64 mi, .slice pe le ke] 37)).alloc (.cells #[.string N, .int .i64 xa, .int .i64 xi, .string T, .slice qe lx je, .slice qi is.length ji, .slice qp lp jp] 44)) := ((Below.refl _ _).alloc (Nat.le_refl _) _).alloc (by simp) _
  have K5 : CellsAt ((w.alloc (.cells #[.int .i64 ma, .int .i64 mi, .slice pe le ke] 37)).alloc (.cells #[.string N, .int .i64 xa, .int .i64 xi, .string T, .slice qe lx je, .slice qi is.length ji, .slice qp lp jp] 44)) w.heap.size 37 #[.int .i64 ma, .int .i64 mi, .slice pe le ke] := (CellsAt.new w 37 #[.int .i64 ma, .int .i64 mi, .slice pe le ke]).kept (World.grownBy_alloc _ _ none) (by simp)
  have D5 : CellsAt ((w.alloc (.cells #[.int .i64 ma, .int .i64 mi, .slice pe le ke] 37)).alloc (.cells #[.string N, .int .i64 xa, .int .i64 xi, .string T, .slice qe lx je, .slice qi is.length ji, .slice qp lp jp] 44)) (w.heap.size + 1) 44 #[.string N, .int .i64 xa, .int .i64 xi, .string T, .slice qe lx je, .slice qi is.length ji, .slice qp lp jp] := by
    have := CellsAt.new (w.alloc (.cells #[.int .i64 ma, .int .i64 mi, .slice pe le ke] 37)) 44 #[.string N, .int .i64 xa, .int .i64 xi, .string T, .slice qe lx je, .slice qi is.length ji, .slice qp lp jp]
    rw [World.size_alloc] at this
    exact this
  obtain ⟨ii, hii, hz0, hz1, hz2⟩ := infoInt_parts
  go_enter Try.func22, Try.ntmps22
  go_wp2_with fail
  generalize (w.alloc (.cells #[.int .i64 ma, .int .i64 mi, .slice pe le ke] 37)).alloc (.cells #[.string N, .int .i64 xa, .int .i64 xi, .string T, .slice qe lx je, .slice qi is.length ji, .slice qp lp jp] 44) = w5 at B5 K5 D5 ⊢
  go_loopw [8, 9] (fun f i wr => ∃ (k : Nat) (acc : List Int), k ≤ is.length ∧ i = .int .i64 k ∧ acc.length = k ∧ wr.ownsRow w5.heap.size 3 1 f acc.length (acc.flatMap intC) ∧ Hid (AF [] is = AF acc (is.drop k)) ∧ Below w5.heap.size w5 wr) (fun _ i _ => is.length - (intOf i).toNat)
  case atStart => exact ⟨0, [], Nat.zero_le _, rfl, rfl, ⟨rfl, .inl ⟨rfl, rfl⟩⟩, by show AF [] is = AF [] (is.drop 0); rfl, Below.refl _ _⟩
  case round =>
    obtain ⟨k, acc, hk, rfl, hacc, hown, HCC, B⟩ := hrel
    have B' : Below w.heap.size w wr := B5.trans (B.mono B5.size)
    have HLK : Hid (acc.length = k) := hacc
    rw [hacc] at hown
    clear hacc
    obtain ⟨av, kv, rfl⟩ := own_form hown
    have DB := D5.below B D5.lt
    have d5 := DB.cell 5
    simp at d5
    by_cases hlt : k < is.length
    · obtain ⟨x, hx⟩ : ∃ x, is[k]? = some x := ⟨_, List.getElem?_eq_getElem hlt⟩
      rcases hrowI with h | ⟨b, off, rfl, hbn, hcells⟩
      · subst h; simp at hlt
      have c0 := (B'.cell (p := ⟨b, off + k * 4 + 0, none⟩) hbn).trans (hcells k _ hx 0 (by omega))
      have c1 := (B'.cell (p := ⟨b, off + k * 4 + 1, none⟩) hbn).trans (hcells k _ hx 1 (by omega))
      have c2 := (B'.cell (p := ⟨b, off + k * 4 + 2, none⟩) hbn).trans (hcells k _ hx 2 (by omega))
      have c3 := (B'.cell (p := ⟨b, off + k * 4 + 3, none⟩) hbn).trans (hcells k _ hx 3 (by omega))
      have HR : Hid (AF [] is = if (AO x).2 ≠ 0 then ([], (AO x).2) else AF (acc ++ [(AO x).1]) (is.drop (k + 1))) := by
        show AF [] is = _
        rw [HCC.out, drop_at hx, HAD.out]
      have HAx := HA.out x
      obtain ⟨xm, xn, xma, xmi⟩ := x
      dsimp only [Imp.cell] at c0 c1 c2 c3
      dsimp only at HAx
      rw [Nat.add_zero] at c0
      generalize AO ⟨xm, xn, xma, xmi⟩ = q at HR HAx
      obtain ⟨p, q⟩ := q
      dsimp only at HR HAx
      have HAX : Hid (∀ d os, _) := fun d os => HAx _ (B'.trans ((below_regrown wr d os).mono B'.size))
      clear HCC hcells hx HAx HAD HAN
      have KB := K5.below B K5.lt
      have d0 := KB.cell 0
      have d1 := KB.cell 1
      have d2 := KB.cell 2
      simp at d0 d1 d2
      have r0 := cell_regrown c0
      have r1 := cell_regrown c1
      have r2 := cell_regrown c2
      have r3 := cell_regrown c3
      have s0 := cell_regrown d0
      have s1 := cell_regrown d1
      have s2 := cell_regrown d2
      have s5 := cell_regrown d5
      clear KB DB
      go_wp2_with fail
      refine wp_region_quiet_below (by kernel_rfl) (by kernel_rfl) ?_
      repeat (quiet_step ((go_at_call 21; go_must (exact Calls.regrown_of (HAX.out _ _)))))
      refine wpQuiet_nil ?_
      intro w7 hw7
      obtain ⟨⟨dq, osq⟩, hw7⟩ := hw7
      have b7 := below_regrown wr dq osq
      rw [← hw7] at b7
      clear hw7
      have O7 := own_below hown b7
      have B7 := B'.trans (b7.mono B'.size)
      have E7 := B.trans (b7.mono B.size)
      clear b7 hown HAX c0 c1 c2 c3 d0 d1 d2 d5 r0 r1 r2 r3 s0 s1 s2 s5
      by_cases hq : q = 0
      · subst hq
        have HR' : Hid (AF [] is = AF (acc ++ [p]) (is.drop (k + 1))) := by
          show AF [] is = _
          rw [HR.out]; rfl
        have hb5 : w5.heap.size ≤ w7.heap.size := E7.size
        have ha7 : k < 7 := by omega
        clear HR
        go_wp2_with (at_builtin; refine wpList_append_lies _ rfl _ _ _ rfl w5.heap.size 3 ii _ 1 8 Try.underlying46 hii hz0 hz1 hz2 rfl (by omega) (.slice av k kv) k (acc.flatMap intC) rfl (O7.alloc _) ⟨w7.heap.size, 0, none⟩ 1 1 [.int .i64 p] rfl rfl (World.news_of_block (cs := #[.int .i64 p]) (t := 3) (fr := (0, 0)) (CellsAt.new w7 3 #[.int .i64 p])) (by simp [Value.oneCell']) (by omega) (by unfold maxLen; omega) (by omega) (by simp; omega) (w7.heap.size + 1) (by simp) ?_; intro g gc w8 hown8 hgrow hat hltg)
        refine ⟨⟨k + 1, acc ++ [p], by omega, by go_num, by rw [List.length_append, HLK.out]; rfl, ?_, HR'.out, ?_⟩, by simp [intOf]; omega⟩
        · rw [List.length_append, List.flatMap_append, HLK.out]
          exact hown8
        · exact (E7.alloc E7.size _).grown hgrow (by simp; omega) (fun j hj => own_block O7 j hj)
      · have hq' : (q != 0) = true := by simpa using hq
        have HR' : Hid (AF [] is = ([], q)) := by
          show AF [] is = _
          rw [HR.out, if_pos hq]
        clear HR hq
        go_wp2
        go_ret2
        exact ⟨⟨.slice none 0 0, by rw [HR'.out]; rfl, by rw [HR'.out]; exact ⟨none, 0, rfl, by simp, .inl rfl⟩⟩, B7⟩
    · obtain rfl : k = is.length := by omega
      have HZ : Hid (AF [] is = (acc, 0)) := by
        show AF [] is = (acc, 0)
        rw [HCC.out, List.drop_length, HAN.out]
      go_wp2
      go_ret2
      exact ⟨⟨_, by rw [HZ.out]; rfl, by rw [HZ.out]; exact own_ints (by rw [HLK.out]; exact hown) (by rw [HLK.out]; omega)⟩, B'⟩

end Go.Proofs.Ytaklbnabgcglhab
