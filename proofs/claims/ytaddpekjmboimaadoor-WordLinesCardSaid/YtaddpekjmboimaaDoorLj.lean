/- The iterator over the lines, as a loop takes it; and a text appended to a variable's row within a round. -/
import Derived.Test.YtaddpekjmboimaaDoorLi
import Derived.RangeFuncBox
import Derived.Lib.AppendStr
namespace Go.Proofs.YtaddpekjmboimaaDoor
open Go.RowKit Go.Maps Go.WideMaps Go.WideElems Go.ChangeShapes Go.WideShapes
attribute [local go_sem] Oper.semAt_some

theorem grown_drewN (W : World) (q : Nat) (row : Option Nat) : W.grownBy (W.drewN q) row := ⟨rfl, rfl, rfl, Nat.le_refl _, fun _ _ _ => rfl⟩

theorem lines_stops (n : Nat) (hn : 1 ≤ n) (Bs n₀ : Nat) (s : List UInt8) (hs : s.length ≤ 1000000) (m : Int) (w : World) (h3 : 3 < n₀) (hm : w.cell? ⟨3, 0, none⟩ = some (.int .i64 m)) (hBs : w.cell? ⟨Bs, 0, none⟩ = some (tv s)) :
    SeqStopsK Fence.wide n Tryd.prog 32 #[.pointer (some ⟨Bs, 0, none⟩)] (fun x : Nat => #[Value.int .i64 ((x : Int) + 1), tv ((linesL s)[x]?.getD [])]) (Below n₀) (fun ys => ys = List.range (linesL s).length) (fun pre => ∃ k, k ≤ (linesL s).length ∧ pre = List.range k) (linesL s).length w := fun l J Jx W hW hJ _ hY h0 =>
  lines1 n hn l Bs n₀ s hs m J Jx (fun pre W q h => hJ pre W _ none h (grown_drewN W q none) (fun r e => by cases e)) hY W ((hW.cell (World.block_lt_of_cell? w _ hm)).trans hm) h3 ((hW.cell (World.block_lt_of_cell? w _ hBs)).trans hBs) h0

set_option maxHeartbeats 400000 in
/-- Lines: a function over the bytes as they were. -/
theorem lines_any (a : Option Addr) (c : Nat) (l : List Nat) (w : World) (h : BAt w a l) : Calls Tryd.prog 20 #[.slice a l.length c] w fun e w' => e = .returned (.func (.func 32) #[] #[.pointer (some ⟨w.heap.size, 0, none⟩)]) ∧ w.alloc (.cells #[.string (sB l)] 9) = w' := by
  have hmf : ∀ (fn : Fn) (first cap : Array Value) (w : World), (Instr.makeFunc fn first cap).run Tryd.prog w = .ok (.func fn first cap) w := fun _ _ _ _ => rfl
  have hcv := conv_bytes c h
  clear h
  go_enter Tryd.func20, Tryd.ntmps20
  go_wp2
  go_ret
  exact ⟨rfl, rfl⟩

theorem wpListIn_append_own_string {F : Fence} {n : Nat} {P : Program} (w : World) {ops : Array Oper} {rest : List Oper} {o : Oper} {a : Act} {Q : Exit → Act → World → Prop}
    (hg : o.guard = none) (s x : Operand) (t u : TypeId) (hop : o.op = Op.call { callee := Callee.builtin Builtin.append, args := #[s, x], argTypes := #[t, u] })
    (base : Nat) (e : TypeId) (i : TypeInfo) (h1 : P.underlying t = some (.slice e)) (hu : P.underlying u = some .string) (h2 : P.info? e = some i) (h3 : i.zero = some (.int .u8 0)) (h4 : i.size = 1) (h5 : i.bytes = 1)
    (v : Value) (k : Nat) (xs : List Value) (hs : a.eval s = v) (hown : w.ownsRow base e 1 v k xs) (str : ByteArray) (hx : a.eval x = .string str) (b1 : k + str.size ≤ maxLen) (b2 : k + str.size ≤ 140737488355328) (b3 : base ≤ w.heap.size)
    (hK : ∀ v' w', w'.ownsRow base e 1 v' (k + str.size) (xs ++ Lib.strCells str) → w.grownBy w' v.ownBlock → wpListIn F n P ops Q rest (a.put o.dst v') w') :
    wpListIn F n P ops Q (o :: rest) a w := by
  refine wpListIn_plain hg fun K hK' => ?_
  obtain ⟨v', w', hrun, r1, r2, r3⟩ := Lib.run_append_own_string (P := P) w base t u o.type e i h1 hu h2 h3 h4 h5 v k xs hown str b1 b2 b3
  unfold Oper.wpIn
  refine ⟨?_, ?_⟩
  · simp [Oper.about, hop, resolve, Target.leads, Sem.run_pure]
  · rw [Oper.semAt_plain F _ _ (by rw [hop]; intro c hc'; cases hc')]
    simp [execOp, hop, resolve, invoke, builtin, hs, hx, hrun, Result.andThen]
    exact hK' _ _ (hK v' w' r1 r2)

/-- The variable's row, grown where nothing was laid. -/
theorem boxed_grown {W w1 : World} {n₀ B : Nat} {t e : TypeId} {size : Nat} {v v' : Value} {k m : Nat} {xs ys : List Value} (hv : Boxed W B t v) (hte : t ≠ e) (hrow : W.ownsRow n₀ e size v k xs) (hn₀ : n₀ ≤ W.heap.size) (hB : n₀ ≤ B)
    (hown' : w1.ownsRow n₀ e size v' m ys) (hgrow : W.grownBy w1 v.ownBlock) :
    Boxed w1 B t v ∧ Boxed (w1.setCell ⟨B, 0, none⟩ v') B t v' ∧ (w1.setCell ⟨B, 0, none⟩ v').ownsRow n₀ e size v' m ys ∧ KeepsOthers W (w1.setCell ⟨B, 0, none⟩ v') ∧ Below n₀ W (w1.setCell ⟨B, 0, none⟩ v') := by
  have hv1 : Boxed w1 B t v := hv.kept hgrow (hv.not_row hte hrow)
  refine ⟨hv1, hv1.set v', hown'.kept (grownBy_setCell' w1 B v') (.inr (hv1.not_row hte hown').symm), ?_, ?_⟩
  · refine (KeepsOthers.of_grownBy hgrow fun j o ej hj => ?_).trans (KeepsOthers.setCell _ _ _)
    rcases hrow.2 with ⟨rfl, _⟩ | ⟨g, cap, cur, rfl, _, hgb, _⟩
    · simp [Value.ownBlock] at ej
    · obtain rfl : g = j := by simpa [Value.ownBlock] using ej
      rw [hgb] at hj; cases hj; rfl
  · exact ((Below.refl n₀ W).grown hgrow hn₀ fun j ej => (hrow.lt j ej).1).setCell (p := ⟨B, 0, none⟩) hB v'
end Go.Proofs.YtaddpekjmboimaaDoor
