/- Placed modules without one of them: a row that is made of what is ahead of it and what is behind it. -/
import Derived.Test.YtaklbnabgcglhacPairA
import Derived.Test.YtaklbnabgcglhacPlcArg
import Derived.Test.YtaklbnabgcglhacOrd
namespace Go.Proofs.Ytaklbnabgcglhac
open Go.ChangeShapes Go.WideShapes Go.ChangeAt Go.RowKit Go.PlainAid Go.Deep

set_option maxRecDepth 100000

theorem open_cap {W : World} {v : Value} {base : Nat} (hv : Value.okWide Try.prog W .any base 22 v) : ∀ a n c, v = .slice a n c → n ≤ c ∧ c ≤ 9223372036854775807 := by
  intro a n c hc
  subst hc
  have h := hv
  simp only [Value.okWide, Try.underlying22, Cell.okWide] at h
  cases a with
  | none =>
    cases n with
    | zero =>
      cases c with
      | zero => omega
      | succ c => simp [Cell.ok, Try.underlying22] at h
    | succ n => simp [Cell.ok, Try.underlying22] at h
  | some a =>
    simp only [Cell.ok, Try.underlying22] at h
    exact ⟨h.1, by have := h.2.1; have e : IntKind.i64.max = 9223372036854775807 := rfl; omega⟩

/-- append to a row of one's own, of whatever number of elements, none too. -/
theorem step_append_may {P : Program} (w : World) {ops : Array Oper} {o : Oper} {a : Act} {K : Act → World → Prop} {Q : Exit → Act → World → Prop} {E : Prop} (hgd : o.guard = none) (s x : Operand) (t : TypeId)
    (ho : o.op = .call { callee := .builtin .append, args := #[s, x], argTypes := #[t, t] })
    (base : Nat) (e : TypeId) (i : TypeInfo) (z : Value) (size bytes : Nat) (ht : P.underlying t = some (.slice e)) (hi : P.info? e = some i) (hz : i.zero = some z)
    (hsize : i.size = size) (hby : i.bytes = bytes) (hzs : z.cells.size = size) (hsz : 0 < size)
    (v : Value) (n : Nat) (xs : List Value) (hs : a.eval s = v) (hown : w.ownsRow base e size v n xs)
    (ad : Addr) (m c : Nat) (news : List Value) (hx : a.eval x = .slice (some ad) m c) (hl : news.length = m * size) (hnews : ∀ j u, news[j]? = some u → w.cell? (ad.add j) = some u) (h1 : ∀ u ∈ news, u.oneCell' = true)
    (h63 : n + m ≤ maxLen) (hbytes : (n + m) * bytes ≤ 140737488355328) (hbase : base ≤ w.heap.size)
    (h : ∀ v' w', w'.ownsRow base e size v' (n + m) (xs ++ news) → w.grownBy w' v.ownBlock → K (a.put o.dst v') w') :
    if Region.wanted o (yielded ops a.tmps) = true then Oper.wp P o a w K Q else E := by
  have hw : Region.wanted o (yielded ops a.tmps) = true := by simp [Region.wanted, hgd]
  rw [if_pos hw]
  obtain ⟨v', w', hr, h2, h3, _, _⟩ := run_append_own_at (P := P) w base t o.type e i z size bytes ht hi hz hsize hby hzs hsz v n xs hown ad m c news hl hnews h1 h63 hbytes hbase
  unfold Oper.wp execOp
  simp only [ho, resolve, invoke, builtin, Sem.run_bind, Sem.run_pure, Result.andThen_ok, List.map_toArray, List.map_cons, List.map_nil, hs, hx, hr]
  exact h v' w' h2 h3

end Go.Proofs.Ytaklbnabgcglhac
