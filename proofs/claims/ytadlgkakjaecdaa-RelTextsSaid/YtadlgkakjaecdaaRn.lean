/- Steps of a region that draws, for maps of rows; what leads on, as a map. -/
import Derived.Test.YtadlgkakjaecdaaRc
import Derived.Maps.OwnRows
import Derived.Deep.RegionHeld
namespace Go.Proofs.Ytadlgkakjaecdaa
open Go.RowKit Go.Maps Go.WideMaps Go.WideElems Go.ChangeShapes Go.WideShapes
section
variable {P : Program} {md : Region.Mode} {ops : Array Oper} {Q : Exit → Act → World → Prop} {S : World → Prop} {fuel : Nat} {listed : Array Bool} {a : Act} {w : World}
/-- An operation that is passed over. -/
theorem held_skip (i : Nat) (d : Option Tmp) {oi : Oper} (hi : ops[i]? = some oi) (hd : oi.dst = d) (hs : Region.noSelect ops = true) (hf : Region.free md ops listed i = true) (hr : (Region.ready md ops listed).contains i = true)
    (hQ : ∀ c a w, Q (.panic c) (a.put d undef) w → Q (.panic c) a w) (hw : Region.wanted oi (yielded ops a.tmps) = false) (hS : S w)
    (h : wpAnyH P md ops Q S fuel (listed.setIfInBounds i true) (a.put d undef) w) : wpAnyH P md ops Q S (fuel + 1) listed a w := by
  subst hd
  exact wpAnyH_take hi hs hf hr hQ (Or.inr ⟨hw, rfl⟩) hS h
/-- An operation that yields in every world that meets S. -/
theorem held_take (i : Nat) (d : Option Tmp) (v : Value) {oi : Oper} (hi : ops[i]? = some oi) (hd : oi.dst = d) (hs : Region.noSelect ops = true) (hf : Region.free md ops listed i = true) (hr : (Region.ready md ops listed).contains i = true)
    (hQ : ∀ c a w, Q (.panic c) (a.put d v) w → Q (.panic c) a w) (hw : Region.wanted oi (yielded ops a.tmps) = true) (hy : ∀ w, S w → (execOp a.eval oi).run P w = .ok (.value v) w) (hS : S w)
    (h : wpAnyH P md ops Q S fuel (listed.setIfInBounds i true) (a.put d v) w) : wpAnyH P md ops Q S (fuel + 1) listed a w := by
  subst hd
  exact wpAnyH_take hi hs hf hr hQ (Or.inl ⟨hw, hy⟩) hS h
end

section
variable {H : Type} {P : Program} {ops : Array Oper} {o : Oper} {a : Act} {w : World} {K : Act → World → Prop} {Q : Exit → Act → World → Prop} {E : Prop}
theorem step_lookup_groups (d : Option Tmp) (hd : o.dst = d) (hg : o.guard = none) (m x : Operand) (t : TypeId) (hop : o.op = Op.lookup t m x false)
    (k El e : TypeId) (q : IntKind) (Kk : Keyed P k) (ht : P.underlying t = some (.map k El)) (hz : (zeroValue El).run P w = .ok (.slice none 0 0) w) (base b n : Nat) (D : DataW H)
    (hm : a.eval m = .map (some b)) (hown : w.ownsGroups P k base e q b n D) (hn : n < maxLen) (key : Value) (kl : Lit) (hx : a.eval x = key) (hkey : keyOf P k key = some kl)
    (hK : ∀ v zs, D.atKey kl .nil = rowDatum q v zs → w.ownsInts base e q v zs → zs.length ≤ n → w.groupBack P t k base e q b n D key kl v → K (a.put d v) w) :
    if Region.wanted o (yielded ops a.tmps) = true then Oper.wp P o a w K Q else E := by
  have hw : Region.wanted o (yielded ops a.tmps) = true := by simp [Region.wanted, hg]
  subst hd
  rw [if_pos hw]
  obtain ⟨v, zs, hrun, hat, hoi, hzl, hback⟩ := hown.at Kk ht hz hn hkey
  unfold Oper.wp
  simp [execOp, hop, hm, hx, hrun, Result.andThen]
  exact hK v zs hat hoi hzl hback
theorem step_append_at (d : Option Tmp) (hd : o.dst = d) (hg : o.guard = none) (s x : Operand) (t : TypeId) (hop : o.op = Op.call { callee := Callee.builtin Builtin.append, args := #[s, x], argTypes := #[t, t] })
    (base : Nat) (e : TypeId) (i : TypeInfo) (z : Value) (size bytes : Nat) (h1 : P.underlying t = some (.slice e)) (h2 : P.info? e = some i) (h3 : i.zero = some z) (h4 : i.size = size) (h5 : i.bytes = bytes) (h6 : z.cells.size = size) (h7 : 0 < size)
    (v : Value) (k : Nat) (xs : List Value) (hs : a.eval s = v) (hown : w.ownsRow base e size v k xs) (ad : Addr) (m c : Nat) (news : List Value) (hx : a.eval x = .slice (some ad) m c) (hn : news.length = m * size)
    (hc : ∀ j u, news[j]? = some u → w.cell? (ad.add j) = some u) (h1c : ∀ u ∈ news, u.oneCell' = true) (b1 : k + m ≤ maxLen) (b2 : (k + m) * bytes ≤ 140737488355328) (b3 : base ≤ w.heap.size)
    (hK : ∀ v' w', w'.ownsRow base e size v' (k + m) (xs ++ news) → w.grownBy w' v.ownBlock → (v' = .slice none 0 0 ↔ v = .slice none 0 0 ∧ m = 0) → (v'.ownBlock = v.ownBlock ∨ v'.ownBlock = some w.heap.size) → K (a.put d v') w') :
    if Region.wanted o (yielded ops a.tmps) = true then Oper.wp P o a w K Q else E := by
  have hw : Region.wanted o (yielded ops a.tmps) = true := by simp [Region.wanted, hg]
  subst hd
  rw [if_pos hw]
  obtain ⟨v', w', hrun, r1, r2, r3, r4⟩ := run_append_own_at (P := P) w base t o.type e i z size bytes h1 h2 h3 h4 h5 h6 h7 v k xs hown ad m c news hn hc h1c b1 b2 b3
  unfold Oper.wp
  simp [execOp, hop, resolve, invoke, builtin, hs, hx, hrun, Result.andThen]
  exact hK v' w' r1 r2 r3 r4
theorem step_update_back (d : Option Tmp) (hd : o.dst = d) (hg : o.guard = none) (m x v : Operand) (t : TypeId) (hop : o.op = Op.mapUpdate t m x v)
    {w0 : World} {k : TypeId} {base : Nat} {e : TypeId} {q : IntKind} {b n : Nat} {D : DataW H} {key : Value} {kl : Lit} {u v' : Value} {zs' : List Int}
    (hback : w0.groupBack P t k base e q b n D key kl u) (hm : a.eval m = .map (some b)) (hx : a.eval x = key) (hv : a.eval v = v')
    (hgr : w0.grownBy w u.ownBlock) (hown' : w.ownsInts base e q v' zs') (hl' : zs'.length ≤ n + 1) (hloc : v'.ownBlock = u.ownBlock ∨ ∃ g, v'.ownBlock = some g ∧ w0.heap.size ≤ g)
    (hK : ∀ w2, w2.ownsGroups P k base e q b (n + 1) (D.put kl (rowDatum q v' zs')) → w.grownBy w2 (some b) → K (a.put d undef) w2) :
    if Region.wanted o (yielded ops a.tmps) = true then Oper.wp P o a w K Q else E := by
  have hw : Region.wanted o (yielded ops a.tmps) = true := by simp [Region.wanted, hg]
  subst hd
  rw [if_pos hw]
  obtain ⟨w2, hrun, r1, r2⟩ := hback w v' zs' hgr hown' hl' hloc
  unfold Oper.wp
  simp [execOp, hop, hm, hx, hv, hrun, Result.andThen]
  exact hK w2 r1 r2
end

abbrev K3 : Keyed Try.prog 3 := int_keyed Try.underlying3
/-- The seconds of the pairs that begin with a, in the order in which they came. -/
def succs (done : List Pr) (a : Int) : List Int := (done.filter fun p => decide (p.1 = a)).map (·.2)
theorem mem_succs {done : List Pr} {a y : Int} : y ∈ succs done a ↔ (a, y) ∈ done := by
  unfold succs
  simp only [List.mem_map, List.mem_filter, decide_eq_true_eq]
  constructor
  · rintro ⟨p, ⟨hp, rfl⟩, rfl⟩; exact hp
  · intro h; exact ⟨(a, y), ⟨h, rfl⟩, rfl⟩
theorem succs_same (done : List Pr) (p : Pr) : succs (done ++ [p]) p.1 = succs done p.1 ++ [p.2] := by simp [succs]
theorem succs_other (done : List Pr) (p : Pr) {a : Int} (h : a ≠ p.1) : succs (done ++ [p]) a = succs done a := by
  have : ¬ p.1 = a := fun e => h e.symm
  simp [succs, this]
theorem succs_nodup (a : Int) : ∀ {done : List Pr}, done.Nodup → (succs done a).Nodup
  | [], _ => by simp [succs]
  | p :: done, h => by
    have h' := List.nodup_cons.1 h
    have ih := succs_nodup a h'.2
    by_cases hp : p.1 = a
    · have e : succs (p :: done) a = p.2 :: succs done a := by simp [succs, hp]
      rw [e]
      refine List.nodup_cons.2 ⟨fun hm => h'.1 ?_, ih⟩
      have := mem_succs.1 hm
      rwa [← hp] at this
    · have e : succs (p :: done) a = succs done a := by simp [succs, hp]
      rw [e]; exact ih
theorem lits_inj : ∀ {a b : List Int}, lits (H := Unit) .i64 a = lits .i64 b → a = b
  | [], [], _ => rfl
  | [], _ :: _, h => by simp [lits] at h
  | _ :: _, [], h => by simp [lits] at h
  | x :: a, y :: b, h => by
    have h1 : (DataW.lit (.int .i64 x) : DU) = .lit (.int .i64 y) ∧ lits (H := Unit) .i64 a = lits .i64 b := by simpa [lits] using h
    have h2 : x = y := by simpa using h1.1
    rw [h2, lits_inj h1.2]

/-- What leads on, so far: a map of rows. -/
structure GrpAt (base b n : Nat) (done : List Pr) (D : DU) (W : World) : Prop where
  own : W.ownsGroups Try.prog 3 base 3 .i64 b n D
  read : ∀ a, fit64 a → D.atKey (.int .i64 a) .nil = if succs done a = [] then .nil else .slice (lits .i64 (succs done a)) []
  has : ∀ a, fit64 a → Maps.has D (.int .i64 a) = decide (a ∈ done.map (·.1))
theorem grp_read {base b n : Nat} {done : List Pr} {D : DU} {W : World} (h : GrpAt base b n done D W) {a : Int} (ha : fit64 a) {v : Value} {zs : List Int} (hat : D.atKey (.int .i64 a) .nil = rowDatum .i64 v zs) (ho : W.ownsInts base 3 .i64 v zs) : zs = succs done a := by
  have hr := h.read a ha
  rw [hat] at hr
  rcases ho.datum (H := Unit) with ⟨e, rfl⟩ | e
  · rw [e] at hr
    split at hr
    · rename_i h0; exact h0.symm
    · cases hr
  · rw [e] at hr
    split at hr
    · cases hr
    · injection hr with hr _
      exact lits_inj hr
end Go.Proofs.Ytadlgkakjaecdaa
