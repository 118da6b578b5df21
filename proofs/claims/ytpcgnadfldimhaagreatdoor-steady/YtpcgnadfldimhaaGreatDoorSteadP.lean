/-
  The statement Steady: a Do whose events' block is told apart; an append whose block is told.
-/
import Derived.Test.YtpcgnadfldimhaaGreatDoorKeepS
namespace Go.Proofs.YtpcgnadfldimhaaGreatDoor
open Go.RowKit

theorem tickO_len {last now n : Int} {L : List Job} {o : Out} (h : TickO last now L n o) : o.L.length = L.length ∧ o.evs.length ≤ 2 * L.length := by
  rcases h with ⟨_, rfl⟩ | ⟨_, M, es, hg, _, rfl⟩
  · exact ⟨rfl, by simp⟩
  · have h1 := goes_todo hg
    have h2 := todo_le L
    exact ⟨h1.2, by show es.length ≤ _; omega⟩

/-- A run's blocks hold no rows. -/
theorem RunS.awayR {B br bx : Nat} {K : List Kj} {L : List Job} {nr now : Int} {X : Nat → Prop} {w : World} (h : RunS B br bx K L nr now X w) {base n : Nat} {v : Value} {xs : List Value} (hv : w.ownsRow base 57 4 v n xs) (k : Nat) (hk : X k) : v.ownBlock ≠ some k := by
  obtain ⟨p, cap, bi, vr, vl, vh, E, hR, hP, hX⟩ := h
  rcases (hX k).1 hk with rfl | e | rfl | rfl | e | e | e
  · exact owns_not hv hR.blk (by decide)
  · exact owns_apart hR.own hv (by decide) k e
  · exact owns_not hv hP.out (by decide)
  · exact owns_not hv hP.clu.cl.hp.blk (by decide)
  · exact owns_apart hP.clu.cl.rcd hv (by decide) k e
  · exact owns_apart hP.clu.cl.liv hv (by decide) k e
  · exact owns_apart hP.clu.cl.hp.row hv (by decide) k e

/-- run_do, and besides: the events' block is none of the run's. -/
theorem run_doS (B br bx : Nat) (K : List Kj) (L : List Job) (nr now : Int) (X : Nat → Prop) (a : Addr) (m : Int) (w0 : World) (hE : Env a m w0) (w : World) (h0 : Below w0.heap.size w0 w) (hB0 : w0.heap.size ≤ B) (hBw : B ≤ w.heap.size) (h : RunS B br bx K L nr now X w) (hG : Good 8 12 30 1000000 now L) (hl : L.length < 1000000000) (k x y : Int) :
    Calls Tryz.prog 16 #[.pointer (some ⟨bx, 0, none⟩), .agg #[.int .i64 k, .int .i64 x, .int .i64 y]] w fun e w' => ∃ o p1 c1 p2 c2 X', DoE 8 12 30 1000000 now L k x y o ∧ e = .returned (.agg #[.int .i64 o.err, .int .i64 o.a, .int .i64 o.b, .int .i64 o.c, .slice p1 o.rows.length c1, .slice p2 o.evs.length c2]) ∧
      w'.ownsRow w.heap.size 57 4 (.slice p1 o.rows.length c1) o.rows.length (flatR o.rows) ∧ w'.ownsRow w.heap.size 55 4 (.slice p2 o.evs.length c2) o.evs.length (flatE o.evs) ∧ RunS B br bx K o.L nr o.now X' w' ∧ Kept X w w' ∧ (∀ k, X' k → X k ∨ w.heap.size ≤ k) ∧ Below w0.heap.size w0 w' ∧ ∀ k, (Value.slice p2 o.evs.length c2).ownBlock = some k → ¬ X' k := by
  obtain ⟨p, cap, bi, vr, vl, vh, E, hR, hP, hX⟩ := h
  refine (doP B bx bi 8 12 30 1000000 now vr vl vh L E a m w0 hE w h0 hB0 hBw hP hG hl k x y).mono ?_
  rintro e w' ⟨o, y1, x1, vr', vl', vh', E', hD, rfl, hY, hV, hP', hK, hN, hA⟩
  obtain ⟨q1, c1, rfl⟩ := own_slice hY
  obtain ⟨q2, c2, rfl⟩ := own_slice hV
  have hR' : RunM B br bx nr p cap K w' := hR.kept hK (fun e => (run_apart hR hP br e).1 rfl) (fun k e e2 => (run_apart hR hP k e2).2 e)
  refine ⟨o, q1, c1, q2, c2, fun k => k = br ∨ (Value.slice p K.length cap).ownBlock = some k ∨ progB bx bi vr' vl' vh' k, hD, rfl, hY, hV, ⟨p, cap, bi, vr', vl', vh', E', hR', hP', fun k => Iff.rfl⟩, hK.mono (fun k e => (hX k).2 (Or.inr (Or.inr e))), ?_, h0.trans (hK.below h0.size (fun k e => by have := (hP.lt k e).1; omega)), ?_⟩
  · rintro k (e | e | e)
    · exact Or.inl ((hX k).2 (Or.inl e))
    · exact Or.inl ((hX k).2 (Or.inr (Or.inl e)))
    · rcases hN k e with e | e
      · exact Or.inl ((hX k).2 (Or.inr (Or.inr e)))
      · exact Or.inr e
  · rintro k e (rfl | e2 | e2)
    · exact owns_not hV hR'.blk (by decide) e
    · exact owns_apart hV hR'.own (by decide) k e e2
    · exact hA k e e2

theorem wpList_append_at {P : Program} (w : World) {ops : Array Oper} {rest : List Oper} {o : Oper} {a : Act} {Q : Exit → Act → World → Prop} (hgd : o.guard = none) (s x : Operand) (t : TypeId)
    (ho : o.op = .call { callee := .builtin .append, args := #[s, x], argTypes := #[t, t] })
    (base : Nat) (e : TypeId) (i : TypeInfo) (z : Value) (size bytes : Nat) (ht : P.underlying t = some (.slice e)) (hi : P.info? e = some i) (hz : i.zero = some z)
    (hsize : i.size = size) (hby : i.bytes = bytes) (hzs : z.cells.size = size) (hsz : 0 < size)
    (v : Value) (n : Nat) (xs : List Value) (hs : a.eval s = v) (hown : w.ownsRow base e size v n xs)
    (ad : Addr) (m c : Nat) (news : List Value) (hx : a.eval x = .slice (some ad) m c) (hl : news.length = m * size) (hnews : ∀ j u, news[j]? = some u → w.cell? (ad.add j) = some u) (h1 : ∀ u ∈ news, u.oneCell' = true)
    (h63 : n + m ≤ maxLen) (hbytes : (n + m) * bytes ≤ 140737488355328) (hbase : base ≤ w.heap.size)
    (h : ∀ v' w', w'.ownsRow base e size v' (n + m) (xs ++ news) → w.grownBy w' v.ownBlock → (v'.ownBlock = v.ownBlock ∨ v'.ownBlock = some w.heap.size) → wpList P ops Q rest (a.put o.dst v') w') : wpList P ops Q (o :: rest) a w := by
  refine wpList_plain hgd fun K hK => ?_
  obtain ⟨v', w', hr, h2, h3, _, h4⟩ := run_append_own_at (P := P) w base t o.type e i z size bytes ht hi hz hsize hby hzs hsz v n xs hown ad m c news hl hnews h1 h63 hbytes hbase
  unfold Oper.wp execOp
  simp only [ho, resolve, invoke, builtin, Sem.run_bind, Sem.run_pure, Result.andThen_ok, List.map_toArray, List.map_cons, List.map_nil, hs, hx, hr]
  exact hK _ _ (h v' w' h2 h3 h4)

theorem evs_one (l : List Ev) (u : Value) (h : u ∈ flatE l) : u.oneCell' = true := by
  simp only [flatE, List.mem_flatMap, Ev.cells, List.mem_cons, List.not_mem_nil, or_false] at h
  obtain ⟨e, _, rfl | rfl | rfl | rfl⟩ := h <;> rfl
theorem flatE_app (l m : List Ev) : flatE (l ++ m) = flatE l ++ flatE m := by simp [flatE]

end Go.Proofs.YtpcgnadfldimhaaGreatDoor
