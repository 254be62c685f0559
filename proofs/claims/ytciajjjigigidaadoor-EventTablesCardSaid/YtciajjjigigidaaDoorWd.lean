/- Bytes told as lists: equal or not, copied, put behind others. -/
import Derived.Test.YtciajjjigigidaaDoorWc
import Derived.Laws.BytesArg
import Derived.Outline
namespace Go.Proofs.YtciajjjigigidaaDoor
open Go.RowKit Go.Maps Go.WideMaps Go.WideElems Go.ChangeShapes Go.WideShapes

theorem under9s : Tryd.prog.underlying 9 = some .string := by kernel_rfl
theorem under5u : Tryd.prog.underlying 5 = some (.int .u8) := by kernel_rfl

/-- The text of these bytes. -/
def sB (l : List Nat) : ByteArray := ⟨(l.map UInt8.ofNat).toArray⟩
theorem sB_inj {l l' : List Nat} (h : ∀ x ∈ l, x < 256) (h' : ∀ x ∈ l', x < 256) (e : (l.map UInt8.ofNat) = l'.map UInt8.ofNat) : l = l' := by
  have k : ∀ {m : List Nat}, (∀ x ∈ m, x < 256) → (m.map UInt8.ofNat).map UInt8.toNat = m := fun {m} hm => by
    rw [List.map_map]
    conv => rhs; rw [← List.map_id m]
    apply List.map_congr_left
    intro x hx
    have := hm x hx
    simp [UInt8.toNat_ofNat']; omega
  rw [← k h, e, k h']

theorem sON (l : List Nat) : strOfNums (l.map fun x : Nat => (x : Int)) = sB l := by
  unfold strOfNums sB
  rw [List.map_map]
  have e : ((fun n : Int => UInt8.ofNat n.toNat) ∘ fun x : Nat => (x : Int)) = UInt8.ofNat := by funext x; simp
  rw [e]

theorem conv_bytes {w : World} {a : Option Addr} {l : List Nat} (c : Nat) (hc : BAt w a l) : (convert 31 9 (.slice a l.length c)).run Tryd.prog w = .ok (.string (sB l)) w := by
  rcases hc with rfl | ⟨b, off, rfl, h⟩
  · cases a with
    | none => exact run_convert_bytes_nil w 31 5 under31 under5u 0 c 9 under9s
    | some ad =>
      obtain ⟨b, o, s⟩ := ad
      show (convert 31 9 (.slice (some ⟨b, o, s⟩) 0 c)).run Tryd.prog w = _
      rw [run_convert_bytes_string w 31 9 5 (some ⟨b, o, s⟩) 0 c under31 under5u under9s]
      have hl : (loadCells ⟨b, o, s⟩ 0).run Tryd.prog w = .ok #[] w := by
        have := run_loadCells_list (P := Tryd.prog) w ⟨b, o, s⟩ [] (fun j v hj => by simp at hj)
        simpa using this
      have := run_bytesToString (P := Tryd.prog) w ⟨b, o, s⟩ 0 c [] (by simpa using hl)
      rw [this]; rfl
  · have := run_convert_bytes_arg (P := Tryd.prog) w 31 5 under31 under5u b off l.length c (l.map fun x : Nat => (x : Int)) (by simp) (fun i hi => by
      rw [h i hi]; simp [List.getD, hi]) 9 under9s
    rw [this, sON]

theorem bat_row {w : World} {base : Nat} {v : Value} {l : List Nat} (h : w.ownsRow base 5 1 v l.length (bc l)) : ∃ a c, v = .slice a l.length c ∧ BAt w a l := by
  rcases h.2 with ⟨e, h0⟩ | ⟨g, cap, cur, e, hb, hg, _⟩
  · exact ⟨none, 0, by rw [e, h0], .inl (List.eq_nil_of_length_eq_zero h0)⟩
  · refine ⟨_, cap, e, .inr ⟨g, 0, rfl, fun i hi => ?_⟩⟩
    have := h.cells (g := g) (by rw [e]; rfl) i (.int .u8 ((l[i]?.getD 0 : Nat) : Int)) (by simp [hi])
    have ea : ((⟨g, 0, none⟩ : Addr).add i) = ⟨g, 0 + i, none⟩ := by simp [Addr.add]; omega
    rw [ea] at this; exact this

theorem BAt.below {w w' : World} {B : Nat} {a : Option Addr} {l : List Nat} (h : BAt w a l) (hb : Below B w w') (hB : ∀ p, a = some p → l ≠ [] → p.block < B) : BAt w' a l := by
  rcases h with rfl | ⟨b, off, rfl, h⟩
  · exact .inl rfl
  · by_cases hl : l = []
    · exact .inl hl
    · exact .inr ⟨b, off, rfl, fun i hi => (hb.cell (p := ⟨b, off + i, none⟩) (hB ⟨b, off, none⟩ rfl hl)).trans (h i hi)⟩
theorem BAt.below' {w w' : World} {a : Option Addr} {l : List Nat} (h : BAt w a l) (hb : Below w.heap.size w w') : BAt w' a l := h.below hb (fun p e hl => by
  rcases h with h | ⟨b, off, e', h⟩
  · exact absurd h hl
  · rw [e] at e'; cases e'
    have := h 0 (by cases l with | nil => exact absurd rfl hl | cons => simp)
    exact World.block_lt_of_cell? w _ this)
theorem BAt.cut {w : World} {a : Option Addr} {l : List Nat} (h : BAt w a l) (k : Nat) : BAt w a (l.take k) := by
  rcases h with rfl | ⟨b, off, e, h⟩
  · exact .inl (by simp)
  · refine .inr ⟨b, off, e, fun i hi => ?_⟩
    have hi' : i < k ∧ i < l.length := by simp at hi; omega
    rw [h i hi'.2]
    simp [hi'.1]

set_option maxHeartbeats 400000 in
theorem sameBytes_any (a a' : Option Addr) (c c' : Nat) (l l' : List Nat) (w : World) (h : BAt w a l) (h' : BAt w a' l') (hb : ∀ x ∈ l, x < 256) (hb' : ∀ x ∈ l', x < 256) :
    Calls Tryd.prog 22 #[.slice a l.length c, .slice a' l'.length c'] w fun e w' => e = .returned (.bool (decide (l = l'))) ∧ w = w' := by
  have k1 := conv_bytes c h
  have k2 := conv_bytes c' h'
  obtain ⟨D, hD⟩ : ∃ D, D = decide (l = l') := ⟨_, rfl⟩
  rw [← hD]
  have HD := Lib.hid hD
  clear h h' hD
  go_enter Tryd.func22, Tryd.ntmps22
  go_wp2
  go_ret
  have e : ((sB l).toList == (sB l').toList) = D := by
    rw [HD.out, ByteArray.toList_eq, ByteArray.toList_eq]
    by_cases hl : l = l'
    · subst hl; simp
    · rw [decide_eq_false hl, beq_eq_false_iff_ne]
      exact fun h => hl (sB_inj hb hb' (by simpa [sB] using h))
  exact ⟨congrArg (fun b => Ending.returned (.bool b)) e, rfl⟩

/-- append of bytes that lie anywhere, nil among them, onto a slice that the call owns. -/
theorem append_bytes {w : World} {base : Nat} {i : TypeInfo} (hi : Tryd.prog.info? 5 = some i) (hz : i.zero = some (.int .u8 0)) (hs : i.size = 1) (hby : i.bytes = 1) {v : Value} {pre : List Nat} (hown : w.ownsRow base 5 1 v pre.length (bc pre)) {a : Option Addr} {l : List Nat} (c : Nat) (hc : BAt w a l) (h63 : pre.length + l.length ≤ 140737488355328) (hbase : base ≤ w.heap.size) (ty : TypeId) :
    ∃ v' w', (Builtin.append_ #[31, 31] ty #[v, .slice a l.length c]).run Tryd.prog w = .ok v' w' ∧ w'.ownsRow base 5 1 v' (pre ++ l).length (bc (pre ++ l)) ∧ w.grownBy w' v.ownBlock := by
  have em : ∀ A : List Nat, bc (pre ++ A) = bc pre ++ bc A := fun A => by simp [bc]
  cases a with
  | none =>
    have hl : l = [] := by rcases hc with h | ⟨_, _, h, _⟩; exact h; cases h
    subst hl
    exact ⟨v, w, run_append_owned_none (P := Tryd.prog) (w := w) base 31 ty 5 i 1 under31 hi v pre.length (bc pre) hown, by simpa using hown, World.grownBy.refl w _⟩
  | some ad =>
    obtain ⟨v', w', h1, h2, h3, _⟩ := run_append_own (P := Tryd.prog) w base 31 ty 5 i (.int .u8 0) 1 1 under31 hi hz hs hby rfl (by decide) v pre.length (bc pre) hown ad l.length c (bc l) (by simp) (fun j u hj => by
      rcases hc with rfl | ⟨b, off, e, h⟩
      · simp at hj
      · cases e
        have hj' : j < l.length := by
          have := (List.getElem?_eq_some_iff.1 hj).1
          simpa using this
        have ea : ((⟨b, off, none⟩ : Addr).add j) = ⟨b, off + j, none⟩ := by unfold Addr.add; split <;> simp_all
        rw [ea, h j hj']
        simp [hj'] at hj
        simp [hj', hj]) (fun u hu => by simp at hu; obtain ⟨x, _, rfl⟩ := hu; rfl) (by unfold maxLen; omega) (by omega) hbase
    exact ⟨v', w', h1, by rw [em, List.length_append]; exact h2, h3⟩

theorem wpList_append_bytes {w : World} {ops : Array Oper} {rest : List Oper} {o : Oper} {a : Act} {Q : Exit → Act → World → Prop} (hgd : o.guard = none) (s x : Operand) (ho : o.op = .call { callee := .builtin .append, args := #[s, x], argTypes := #[31, 31] })
    (base : Nat) (i : TypeInfo) (hi : Tryd.prog.info? 5 = some i) (hz : i.zero = some (.int .u8 0)) (hsz : i.size = 1) (hby : i.bytes = 1) (v : Value) (pre : List Nat) (hs : a.eval s = v) (hown : w.ownsRow base 5 1 v pre.length (bc pre)) (ad : Option Addr) (c : Nat) (l : List Nat) (hx : a.eval x = .slice ad l.length c) (hc : BAt w ad l)
    (h63 : pre.length + l.length ≤ 140737488355328) (hbase : base ≤ w.heap.size)
    (h : ∀ v' w', w'.ownsRow base 5 1 v' (pre ++ l).length (bc (pre ++ l)) → w.grownBy w' v.ownBlock → wpList Tryd.prog ops Q rest (a.put o.dst v') w') : wpList Tryd.prog ops Q (o :: rest) a w := by
  refine wpList_plain hgd fun K hK => ?_
  obtain ⟨v', w', hr, h2, h3⟩ := append_bytes (ty := o.type) hi hz hsz hby hown c hc h63 hbase
  unfold Oper.wp execOp
  simp only [ho, resolve, invoke, builtin, Sem.run_bind, Sem.run_pure, Result.andThen_ok, List.map_toArray, List.map_cons, List.map_nil, hs, hx, hr]
  exact hK _ _ (h v' w' h2 h3)

end Go.Proofs.YtciajjjigigidaaDoor
