/- The walk of the statement on logs. -/
import Derived.Test.YtkjnopcmlppaaaaDoorLls
namespace Go.Proofs.YtkjnopcmlppaaaaDoor
open Go.RowKit Go.Maps Go.WideMaps Go.WideElems Go.ChangeShapes Go.WideShapes

theorem idx_below {ks : List Int} {l : Lit} {z : Int} (h : idxOf (L ks) l = some z) : ∃ k : Nat, z = (k : Int) ∧ k < ks.length := by
  unfold idxOf at h
  obtain ⟨k, hk, rfl⟩ := Option.map_eq_some_iff.1 h
  obtain ⟨h1, _⟩ := List.findIdx?_eq_some_iff_getElem.1 hk
  exact ⟨k, rfl, by simpa using h1⟩
theorem assoc_some {ks vs : List Int} {l : Lit} {k : Nat} (h : idxOf (L ks) l = some (k : Int)) : assoc ks vs l = some (vs.getD k 0) := by simp [assoc, h]
theorem assoc_none {ks vs : List Int} {l : Lit} (h : idxOf (L ks) l = none) : assoc ks vs l = none := by simp [assoc, h]

set_option maxHeartbeats 400000 in
theorem logs_many (a : Option Addr) (n c : Nat) (w : World) (ea : Addr) (hg : w.cell? ⟨0, 0, none⟩ = some (.iface 88 (.pointer (some ea)))) (hn : 300 < n) :
    Calls Tryd.prog 6 #[.slice a n c] w fun e w' => e = .returned (.bool true) ∧ Only (fun _ => False) w w' := by
  have Hf := Lib.hid (first_any w ea hg)
  have hn' : (300 : Int) < n := by omega
  clear hg
  go_enter Tryd.func6, Tryd.ntmps6
  go_wp2_with (go_at_call 8; refine Hf.out.mono ?_; rintro e w1 ⟨rfl, ho⟩)
  go_ret
  exact ⟨rfl, ho⟩

set_option maxHeartbeats 400000 in
theorem logs_zero (a : Option Addr) (c : Nat) (w : World) (ea : Addr) (hg : w.cell? ⟨0, 0, none⟩ = some (.iface 88 (.pointer (some ea)))) :
    Calls Tryd.prog 6 #[.slice a 0 c] w fun e w' => e = .returned (.bool true) ∧ Only (fun _ => False) w w' := by
  have Hf := Lib.hid (first_any w ea hg)
  clear hg
  go_enter Tryd.func6, Tryd.ntmps6
  go_wp2_with (go_at_call 8; refine Hf.out.mono ?_; rintro e w1 ⟨rfl, ho⟩)
  refine wp_loop_rounds 1 ?_
  rw [rounds_succ]
  go_wp2_with fail
  go_ret
  exact ⟨rfl, ho.trans (Only.of_alloc _ _) (fun _ h => h) (fun _ h => .inl h)⟩

/-- The relation with the call's own copy beside it, in the block cb. -/
structure LOpen (w0 w1 : World) (lb j : Nat) (kv vv : Value) (ks vs : List Int) (mv : Value) (cb : Nat) (K x y : Int) : Prop where
  log : LogI 3 53 w0.heap.size w1 lb mv ks.length (assoc ks vs)
  rk : w1.ownsRow w0.heap.size 3 1 kv ks.length (I ks)
  rv : w1.ownsRow w0.heap.size 3 1 vv vs.length (I vs)
  len : vs.length = ks.length
  d1 : ∀ b, kv.ownBlock = some b → ¬ lfoot lb mv b
  d2 : ∀ b, vv.ownBlock = some b → ¬ lfoot lb mv b
  d3 : ∀ b, kv.ownBlock = some b → vv.ownBlock ≠ some b
  old : Only (fun _ => False) w0 w1
  le : ks.length ≤ j
  c : w1.heap[cb]? = some (.cells #[.int .i64 K, .int .i64 x, .int .i64 y] 44 (0, 0))
  cl : ¬ lfoot lb mv cb
  ck : kv.ownBlock ≠ some cb
  cv : vv.ownBlock ≠ some cb

theorem LRel.opens {w0 wr : World} {lb j : Nat} {kv vv : Value} {ks vs : List Int} (h : LRel w0 lb j kv vv ks vs wr) (K x y : Int) : ∃ mv, LOpen w0 (wr.alloc (.cells #[.int .i64 K, .int .i64 x, .int .i64 y] 44)) lb j kv vv ks vs mv wr.heap.size K x y := by
  obtain ⟨mv, h1, h2, h3, h4, h5, h6, h7, h8, h9⟩ := h
  have oa := Only.of_alloc wr (.cells #[.int .i64 K, .int .i64 x, .int .i64 y] 44)
  refine ⟨mv, h1.only oa (fun _ _ h => h), ownsRow_only h2 oa (fun _ _ h => h), ownsRow_only h3 oa (fun _ _ h => h), h4, h5, h6, h7, h8.trans oa (fun _ h => h) (fun _ h => .inl h), h9, heap_alloc_new wr _, fun e => ?_, fun e => ?_, fun e => ?_⟩
  · exact absurd (h1.lt _ e).2 (Nat.lt_irrefl _)
  · exact absurd (h2.lt _ e).2 (Nat.lt_irrefl _)
  · exact absurd (h3.lt _ e).2 (Nat.lt_irrefl _)
section
variable {w0 w1 : World} {lb j : Nat} {kv vv : Value} {ks vs : List Int} {mv : Value} {cb : Nat} {K x y : Int}
theorem LOpen.rel (h : LOpen w0 w1 lb j kv vv ks vs mv cb K x y) : LRel w0 lb j kv vv ks vs w1 := ⟨mv, h.log, h.rk, h.rv, h.len, h.d1, h.d2, h.d3, h.old, h.le⟩
theorem LOpen.only {w2 : World} (h : LOpen w0 w1 lb j kv vv ks vs mv cb K x y) (ho : Only (fun _ => False) w1 w2) : LOpen w0 w2 lb j kv vv ks vs mv cb K x y :=
  ⟨h.log.only ho (fun _ _ h => h), ownsRow_only h.rk ho (fun _ _ h => h), ownsRow_only h.rv ho (fun _ _ h => h), h.len, h.d1, h.d2, h.d3, h.old.trans ho (fun _ h => h) (fun _ h => .inl h), h.le, by rw [ho.block cb (lt_of_block h.c) (fun h => h)]; exact h.c, h.cl, h.ck, h.cv⟩
/-- The copy's three cells in any world that keeps its block. -/
theorem cells3 {w2 : World} (h : w2.heap[cb]? = some (.cells #[.int .i64 K, .int .i64 x, .int .i64 y] 44 (0, 0))) : w2.cell? ⟨cb, 0, none⟩ = some (.int .i64 K) ∧ w2.cell? ⟨cb, 1, none⟩ = some (.int .i64 x) ∧ w2.cell? ⟨cb, 2, none⟩ = some (.int .i64 y) := by
  simp [World.cell?, h]
end

set_option maxRecDepth 100000 in
set_option maxHeartbeats 4000000 in
theorem logs_some (b off n c : Nat) (K A V : Nat → Int) (w : World) (ea : Addr) (hg : w.cell? ⟨0, 0, none⟩ = some (.iface 88 (.pointer (some ea)))) (hn : n ≤ 300) (hK : ∀ i, i < n → w.cell? ⟨b, off + i * 3, none⟩ = some (.int .i64 (K i)) ∧ w.cell? ⟨b, off + i * 3 + 1, none⟩ = some (.int .i64 (A i)) ∧ w.cell? ⟨b, off + i * 3 + 2, none⟩ = some (.int .i64 (V i))) (hwf : ∀ i, i < n → (Lit.int .i64 (A i)).wf = true) (hpos : 0 < n) :
    Calls Tryd.prog 6 #[.slice (some ⟨b, off, none⟩) n c] w fun e w' => e = .returned (.bool true) ∧ Only (fun _ => False) w w' := by
  obtain ⟨i0, hi, hz0, hz1, hz2⟩ := info_parts Tryd.info3
  have hb : b < w.heap.size := World.block_lt_of_cell? w _ (hK 0 hpos).1
  have Hf := Lib.hid (first_any w ea hg)
  have HK := Lib.hid hK
  have Hwf := Lib.hid hwf
  have hd : decide ((300 : Int) < (n : Int)) = false := by simp; omega
  clear hg hK hwf
  go_enter Tryd.func6, Tryd.ntmps6
  go_wp2_with (go_at_call 8; refine Hf.out.mono ?_; rintro e w1 ⟨rfl, ho⟩)
  obtain ⟨lb, hlb⟩ : ∃ lb, lb = w1.heap.size := ⟨_, rfl⟩
  rw [← hlb]
  have hstart : LRel w lb 0 (.slice none 0 0) (.slice none 0 0) [] [] (w1.alloc (.cells #[.int .i64 0, .map none] 53)) := by
    have hl := log_made 3 53 w.heap.size w1 ho.size
    rw [← hlb] at hl
    exact ⟨_, hl, World.ownsRow_nil _ _ _ _, World.ownsRow_nil _ _ _ _, rfl, (fun b hb => by cases hb), (fun b hb => by cases hb), (fun b hb => by cases hb), ho.trans (Only.of_alloc _ _) (fun _ h => h) (fun _ h => .inl h), Nat.le_refl _⟩
  have Hstart := Lib.hid hstart
  clear hstart ho hlb
  go_loopw [5, 6, 7] (fun kv vv i wr => ∃ j : Nat, j ≤ n ∧ i = .int .i64 j ∧ Hid (∃ ks vs, LRel w lb j kv vv ks vs wr)) (fun _ _ i _ => n - (intOf i).toNat)
  case atStart => exact ⟨0, Nat.zero_le _, rfl, _, _, Hstart.out⟩
  case round =>
    obtain ⟨j, hj, rfl, Hrel⟩ := hrel
    by_cases hlt : j < n
    · obtain ⟨ks, vs, hr⟩ := Hrel.out
      obtain ⟨mv, h1, h2, h3, h4, h5, h6, h7, h8, h9⟩ := id hr
      have hcell := fun (o : Nat) => World.cell?_of_block (a := ⟨b, off + j * 3 + o, none⟩) (w := w) (h8.block b hb (fun h => h))
      have c0 : wr.cell? ⟨b, off + j * 3, none⟩ = some (.int .i64 (K j)) := (hcell 0).trans (HK.out j hlt).1
      have c1 : wr.cell? ⟨b, off + j * 3 + 1, none⟩ = some (.int .i64 (A j)) := (hcell 1).trans (HK.out j hlt).2.1
      have c2 : wr.cell? ⟨b, off + j * 3 + 2, none⟩ = some (.int .i64 (V j)) := (hcell 2).trans (HK.out j hlt).2.2
      have hxw : Hid ((Lit.int .i64 (A j)).wf = true) := Hwf.out j hlt
      have hsz := h8.size
      obtain ⟨⟨ka, kc, rfl⟩, ⟨va, vc, rfl⟩⟩ := hr.shapes
      have Hr := Lib.hid hr
      clear hr h1 h2 h3 h4 h5 h6 h7 h8 Hrel hcell
      generalize K j = kj at *
      generalize A j = x at *
      generalize V j = y at *
      go_wp2_with fail
      obtain ⟨mv, hop⟩ := Hr.out.opens kj x y
      obtain ⟨cb, hcb⟩ : ∃ cb, cb = wr.heap.size := ⟨_, rfl⟩
      rw [← hcb] at hop ⊢
      generalize wr.alloc (.cells #[.int .i64 kj, .int .i64 x, .int .i64 y] 44) = w1 at *
      have Hop := Lib.hid hop
      have hsz1 := hop.old.size
      obtain ⟨k0, k1, k2⟩ := cells3 hop.c
      have hle := hop.le
      have hsk := hop.rel.seek x (by omega)
      clear hop hcb c0 c1 c2 hsz Hr
      cases hx : idxOf (L ks) (.int .i64 x) with
      | some z =>
        obtain ⟨kz, rfl, hkz⟩ := idx_below hx
        rw [hx] at hsk
        simp only [Option.getD_some] at hsk
        have Hx := Lib.hid hx
        have Has := Lib.hid (assoc_some (vs := vs) hx)
        clear hx
        refine hsk.mono ?_
        clear hsk
        rintro e w' ⟨rfl, rfl⟩
        by_cases e1 : kj = 1
        · subst e1
          have Hn := Lib.hid (lgi_note_old _ lb mv _ _ x y w1 hxw.out Hop.out.log (by rw [Has.out]; rfl))
          go_wp2_with fail
          refine Hn.out.mono ?_
          rintro e w2 ⟨rfl, ho2⟩
          have Hr2 := Lib.hid ((Hop.out.only ho2).rel.mono (Nat.le_succ j))
          clear ho2 k0 k1 k2
          have Hlen := Lib.hid (Hr2.out.len)
          go_wp2_with (go_at_call 25; refine Hlen.out.mono ?_; rintro e w' ⟨rfl, rfl⟩)
          go_roundw
          case rel => exact ⟨j + 1, by omega, by go_num, _, _, Hr2.out⟩
          case measure => simp [intOf]; omega
        · have ne1 : (kj == 1) = false := by simpa using e1
          by_cases e2 : kj = 2
          · subst e2
            have Hg := Lib.hid (Hop.out.rel.get x hxw.out)
            rw [Has.out] at Hg
            simp only [Option.getD_some, Option.isSome_some] at Hg
            go_wp2_with fail
            refine Hg.out.mono ?_
            rintro e w2 ⟨rfl, HR⟩
            obtain ⟨g, vc2, e3, hv⟩ := HR.out.val hkz
            cases e3
            have Hr2 := Lib.hid (HR.out.mono (Nat.le_succ j))
            generalize vs.getD kz 0 = vv at *
            clear k0 k1 k2
            have Hlen := Lib.hid (Hr2.out.len)
            go_wp2_with (go_at_call 25; refine Hlen.out.mono ?_; rintro e w' ⟨rfl, rfl⟩)
            go_roundw
            case rel => exact ⟨j + 1, by omega, by go_num, _, _, Hr2.out⟩
            case measure => simp [intOf]; omega
          · have ne2 : (kj == 2) = false := by simpa using e2
            obtain ⟨rb, hrb⟩ : ∃ rb, rb = w1.heap.size := ⟨_, rfl⟩
            have oa := Only.of_alloc w1 (.cells #[.int .i64 0] 3)
            have hrr : (w1.alloc (.cells #[.int .i64 0] 3)).heap[rb]? = some (.cells #[.int .i64 0] 3 (0, 0)) := by rw [hrb]; exact heap_alloc_new w1 _
            have hop2 := Hop.out.only oa
            have hrl : ¬ lfoot lb mv rb := fun e => by have := (Hop.out.log.lt rb e).2; omega
            have hrk : ∀ b, (Value.slice ka ks.length kc).ownBlock = some b → b ≠ rb := fun b hb e => by have := (Hop.out.rk.lt b hb).2; omega
            have hrv : ∀ b, (Value.slice va ks.length vc).ownBlock = some b → b ≠ rb := fun b hb e => by have := (Hop.out.rv.lt b hb).2; omega
            have hcr : cb ≠ rb := fun e => by have := lt_of_block Hop.out.c; omega
            have hmf : ∀ (fn : Fn) (first cap : Array Value) (w : World), (Instr.makeFunc fn first cap).run Tryd.prog w = .ok (.func fn first cap) w := fun _ _ _ _ => rfl
            have hbw : w.heap.size ≤ rb := by omega
            obtain ⟨k0', k1', k2'⟩ := cells3 hop2.c
            have Hop1 := Hop
            clear Hop
            have Hop := Lib.hid hop2
            have Hrr := Lib.hid hrr
            have hsz1' := hop2.old.size
            have Hrb := Lib.hid hrb
            have Hrl := Lib.hid hrl
            have Hrk := Lib.hid hrk
            have Hrv := Lib.hid hrv
            clear hop2 hrr oa hrb hrl hrk hrv
            go_wp2_with fail
            rw [← Hrb.out]
            generalize w1.alloc (.cells #[.int .i64 0] 3) = w1r at *
            clear hsz1 k0 k1 k2
            have hsz1 := hsz1'
            refine (oni_old _ lb mv _ _ x _ (vs.getD kz 0) w1r hxw.out Hop.out.log Has.out).mono ?_
            rintro e w2 ⟨rfl, ho2⟩
            have hop3 := Hop.out.only ho2
            obtain ⟨g, vc2, e3, hv⟩ := hop3.rel.val hkz
            cases e3
            have Hr2 := Lib.hid (hop3.rel.mono (Nat.le_succ j))
            have hrn : w2.cell? ⟨rb, 0, none⟩ = some (.int .i64 0) := cell_of_one (by rw [ho2.block rb (lt_of_block Hrr.out) (fun h => h)]; exact Hrr.out)
            generalize vs.getD kz 0 = vv at *
            clear k0' k1' k2' ho2 hop3
            have Hlen := Lib.hid (Hr2.out.len)
            go_wp2_with (go_at_call 25; refine Hlen.out.mono ?_; rintro e w' ⟨rfl, rfl⟩)
            go_roundw
            case rel => exact ⟨j + 1, by omega, by go_num, _, _, Hr2.out⟩
            case measure => simp [intOf]; omega
      | none =>
        rw [hx] at hsk
        simp only [Option.getD_none] at hsk
        have Hx := Lib.hid hx
        have Has := Lib.hid (assoc_none (vs := vs) hx)
        clear hx
        refine hsk.mono ?_
        clear hsk
        rintro e w' ⟨rfl, rfl⟩
        by_cases e1 : kj = 1
        · subst e1
          have Hn := Lib.hid (lgi_note_new _ lb mv _ _ x y w1 hxw.out Hop.out.log (by rw [Has.out]; rfl) (by omega) hsz1)
          go_wp2_with fail
          refine Hn.out.mono ?_
          rintro e w2 ⟨rfl, mv2, hp⟩
          have honly := hp.only
          have hlog := hp.log
          have hfrom := hp.from'
          have hdk2 : ∀ b, (Value.slice ka ks.length kc).ownBlock = some b → ¬ lfoot lb mv b := Hop.out.d1
          have hdv2 : ∀ b, (Value.slice va ks.length vc).ownBlock = some b → ¬ lfoot lb mv b := Hop.out.d2
          have hc2 : w2.heap[cb]? = some (.cells #[.int .i64 1, .int .i64 x, .int .i64 y] 44 (0, 0)) := by rw [hp.only.block cb (lt_of_block Hop.out.c) (fun e => Hop.out.cl e)]; exact Hop.out.c
          clear hp k0 k1 k2
          have hs2 := honly.size
          have hrk2 : w2.ownsRow w.heap.size 3 1 (.slice ka ks.length kc) ks.length (I ks) := ownsRow_only Hop.out.rk honly hdk2
          have hrv2 : w2.ownsRow w.heap.size 3 1 (.slice va ks.length vc) ks.length (I vs) := by have := ownsRow_only Hop.out.rv honly hdv2; rwa [Hop.out.len] at this
          obtain ⟨k0, k1, k2⟩ := cells3 hc2
          have Hc2 := Lib.hid hc2
          have Honly := Lib.hid honly
          have Hlog := Lib.hid hlog
          have Hfrom := Lib.hid hfrom
          have Hrv2 := Lib.hid hrv2
          have Hrk2 := Lib.hid hrk2
          have hsW : w.heap.size ≤ w2.heap.size := Nat.le_trans hsz1 hs2
          clear hc2 honly hlog hfrom hdk2 hdv2 hrv2
          go_wp2_with (at_builtin; refine wpList_append_own_at _ rfl _ _ 22 rfl w.heap.size 3 i0 (.int .i64 0) 1 8 Tryd.under22 hi hz0 hz1 hz2 rfl (by decide) _ _ _ rfl (hrk2.alloc _) ⟨w2.heap.size, 0, none⟩ 1 1 [.int .i64 x] rfl rfl (cell_one_new _ _ _) ?c2an ?c3an ?c4an ?c5an ?_)
          case c2an => intro u hu; simp at hu; subst hu; rfl
          case c3an => unfold maxLen; omega
          case c4an => omega
          case c5an => simp; omega
          intro v3 w3 hown3 hgrow3 _ hloc3
          have hs3 := hgrow3.size
          simp at hs3
          have ok3 : Only (fun i => (Value.slice ka ks.length kc).ownBlock = some i) w2 w3 := (Only.of_alloc w2 _).trans (Only.of_grown hgrow3) (fun _ (h : False) => h.elim) (fun _ h => .inl h)
          have hc3 : w3.heap[cb]? = some (.cells #[.int .i64 1, .int .i64 x, .int .i64 y] 44 (0, 0)) := by rw [ok3.block cb (lt_of_block Hc2.out) (fun e => Hop.out.ck e)]; exact Hc2.out
          have hrv3 : w3.ownsRow w.heap.size 3 1 (.slice va ks.length vc) ks.length (I vs) := ownsRow_only Hrv2.out ok3 (fun b hb e => Hop.out.d3 b e hb)
          have hown3' : w3.ownsRow w.heap.size 3 1 v3 (ks.length + 1) (I ks ++ [.int .i64 x]) := hown3
          obtain ⟨a3, c3, rfl⟩ := ownsRow_shape hown3'
          have Hown3 := Lib.hid hown3'
          have Hgrow3 := Lib.hid hgrow3
          have Hloc3 := Lib.hid hloc3
          obtain ⟨q0, q1, q2⟩ := cells3 hc3
          clear hown3 hown3' hgrow3 hloc3 ok3 hc3 k0 k1 k2 hrk2
          go_wp2_with (at_builtin; refine wpList_append_own_at _ rfl _ _ 22 rfl w.heap.size 3 i0 (.int .i64 0) 1 8 Tryd.under22 hi hz0 hz1 hz2 rfl (by decide) _ _ _ rfl (hrv3.alloc _) ⟨w3.heap.size, 0, none⟩ 1 1 [.int .i64 y] rfl rfl (cell_one_new _ _ _) ?c2bn ?c3bn ?c4bn ?c5bn ?_)
          case c2bn => intro u hu; simp at hu; subst hu; rfl
          case c3bn => unfold maxLen; omega
          case c4bn => omega
          case c5bn => simp; omega
          intro v4 w4 hown4 hgrow4 _ hloc4
          have hown4' : w4.ownsRow w.heap.size 3 1 v4 (vs.length + 1) (I vs ++ [.int .i64 y]) := by rw [Hop.out.len]; exact hown4
          have hrel4 : LRel w lb (j + 1) (.slice a3 (ks.length + 1) c3) v4 (ks ++ [x]) (vs ++ [y]) w4 := LRel.grow (F := lfoot lb mv) Hop.out.rk Hop.out.rv Hop.out.len Hop.out.d1 Hop.out.d2 Hop.out.d3 Hop.out.old Hop.out.le Hx.out Hlog.out Honly.out (fun i hi => (Hop.out.log.lt i hi).1) Hfrom.out Hown3.out Hgrow3.out (by simpa using Hloc3.out) hown4' hgrow4 (by simpa using hloc4)
          obtain ⟨a4, c4, rfl⟩ := ownsRow_shape hown4'
          have Hlen := Lib.hid hrel4.len
          have Hrel4 := Lib.hid hrel4
          clear hown4 hown4' hgrow4 hloc4 hrel4 hrv3 q0 q1 q2
          go_wp2_with (go_at_call 25; refine Hlen.out.mono ?_; rintro e w' ⟨rfl, rfl⟩)
          go_roundw
          case rel => exact ⟨j + 1, by omega, by go_num, _, _, Hrel4.out⟩
          case measure => simp [intOf]; omega
        · have ne1 : (kj == 1) = false := by simpa using e1
          by_cases e2 : kj = 2
          · subst e2
            have Hg := Lib.hid (Hop.out.rel.get x hxw.out)
            rw [Has.out] at Hg
            simp only [Option.getD_none, Option.isSome_none] at Hg
            go_wp2_with fail
            refine Hg.out.mono ?_
            rintro e w2 ⟨rfl, HR⟩
            have Hr2 := Lib.hid (HR.out.mono (Nat.le_succ j))
            clear k0 k1 k2
            have Hlen := Lib.hid (Hr2.out.len)
            go_wp2_with (go_at_call 25; refine Hlen.out.mono ?_; rintro e w' ⟨rfl, rfl⟩)
            go_roundw
            case rel => exact ⟨j + 1, by omega, by go_num, _, _, Hr2.out⟩
            case measure => simp [intOf]; omega
          · have ne2 : (kj == 2) = false := by simpa using e2
            by_cases e4 : kj = 4
            · subst e4
              obtain ⟨rb, hrb⟩ : ∃ rb, rb = w1.heap.size := ⟨_, rfl⟩
              have oa := Only.of_alloc w1 (.cells #[.int .i64 0] 3)
              have hrr : (w1.alloc (.cells #[.int .i64 0] 3)).heap[rb]? = some (.cells #[.int .i64 0] 3 (0, 0)) := by rw [hrb]; exact heap_alloc_new w1 _
              have hop2 := Hop.out.only oa
              have hrl : ¬ lfoot lb mv rb := fun e => by have := (Hop.out.log.lt rb e).2; omega
              have hrk : ∀ b, (Value.slice ka ks.length kc).ownBlock = some b → b ≠ rb := fun b hb e => by have := (Hop.out.rk.lt b hb).2; omega
              have hrv : ∀ b, (Value.slice va ks.length vc).ownBlock = some b → b ≠ rb := fun b hb e => by have := (Hop.out.rv.lt b hb).2; omega
              have hcr : cb ≠ rb := fun e => by have := lt_of_block Hop.out.c; omega
              have hmf : ∀ (fn : Fn) (first cap : Array Value) (w : World), (Instr.makeFunc fn first cap).run Tryd.prog w = .ok (.func fn first cap) w := fun _ _ _ _ => rfl
              have hbw : w.heap.size ≤ rb := by omega
              obtain ⟨k0', k1', k2'⟩ := cells3 hop2.c
              have Hop1 := Hop
              clear Hop
              have Hop := Lib.hid hop2
              have Hrr := Lib.hid hrr
              have hsz1' := hop2.old.size
              have Hrb := Lib.hid hrb
              have Hrl := Lib.hid hrl
              have Hrk := Lib.hid hrk
              have Hrv := Lib.hid hrv
              clear hop2 hrr oa hrb hrl hrk hrv
              go_wp2_with fail
              rw [← Hrb.out]
              generalize w1.alloc (.cells #[.int .i64 0] 3) = w1r at *
              clear hsz1 k0 k1 k2
              have hsz1 := hsz1'
              refine (oni_four _ lb rb cb mv _ _ x y w1r hxw.out Hop.out.log Has.out (by omega) hsz1 Hrr.out Hop.out.c Hrl.out Hop.out.cl).mono ?_
              rintro e w2 ⟨rfl, mv2, hp⟩
              have honly := hp.only
              have hlog := hp.log
              have hfrom := hp.from'
              have hrn := hp.ran
              have hdk2 : ∀ b, (Value.slice ka ks.length kc).ownBlock = some b → ¬ (lfoot lb mv b ∨ b = rb) := fun b hb e => by rcases e with e | e; exact Hop.out.d1 b hb e; exact Hrk.out b hb e
              have hdv2 : ∀ b, (Value.slice va ks.length vc).ownBlock = some b → ¬ (lfoot lb mv b ∨ b = rb) := fun b hb e => by rcases e with e | e; exact Hop.out.d2 b hb e; exact Hrv.out b hb e
              have hc2 : w2.heap[cb]? = some (.cells #[.int .i64 4, .int .i64 x, .int .i64 y] 44 (0, 0)) := by rw [hp.only.block cb (lt_of_block Hop.out.c) (fun e => by rcases e with e | e; exact Hop.out.cl e; exact hcr e)]; exact Hop.out.c
              clear hp k0' k1' k2'
              have hs2 := honly.size
              have hrk2 : w2.ownsRow w.heap.size 3 1 (.slice ka ks.length kc) ks.length (I ks) := ownsRow_only Hop.out.rk honly hdk2
              have hrv2 : w2.ownsRow w.heap.size 3 1 (.slice va ks.length vc) ks.length (I vs) := by have := ownsRow_only Hop.out.rv honly hdv2; rwa [Hop.out.len] at this
              obtain ⟨k0, k1, k2⟩ := cells3 hc2
              have Hc2 := Lib.hid hc2
              have Honly := Lib.hid honly
              have Hlog := Lib.hid hlog
              have Hfrom := Lib.hid hfrom
              have Hrv2 := Lib.hid hrv2
              have Hrk2 := Lib.hid hrk2
              have hsW : w.heap.size ≤ w2.heap.size := Nat.le_trans hsz1 hs2
              clear hc2 honly hlog hfrom hdk2 hdv2 hrv2
              go_wp2_with (at_builtin; refine wpList_append_own_at _ rfl _ _ 22 rfl w.heap.size 3 i0 (.int .i64 0) 1 8 Tryd.under22 hi hz0 hz1 hz2 rfl (by decide) _ _ _ rfl (hrk2.alloc _) ⟨w2.heap.size, 0, none⟩ 1 1 [.int .i64 x] rfl rfl (cell_one_new _ _ _) ?c2af ?c3af ?c4af ?c5af ?_)
              case c2af => intro u hu; simp at hu; subst hu; rfl
              case c3af => unfold maxLen; omega
              case c4af => omega
              case c5af => simp; omega
              intro v3 w3 hown3 hgrow3 _ hloc3
              have hs3 := hgrow3.size
              simp at hs3
              have ok3 : Only (fun i => (Value.slice ka ks.length kc).ownBlock = some i) w2 w3 := (Only.of_alloc w2 _).trans (Only.of_grown hgrow3) (fun _ (h : False) => h.elim) (fun _ h => .inl h)
              have hc3 : w3.heap[cb]? = some (.cells #[.int .i64 4, .int .i64 x, .int .i64 y] 44 (0, 0)) := by rw [ok3.block cb (lt_of_block Hc2.out) (fun e => Hop.out.ck e)]; exact Hc2.out
              have hrv3 : w3.ownsRow w.heap.size 3 1 (.slice va ks.length vc) ks.length (I vs) := ownsRow_only Hrv2.out ok3 (fun b hb e => Hop.out.d3 b e hb)
              have hown3' : w3.ownsRow w.heap.size 3 1 v3 (ks.length + 1) (I ks ++ [.int .i64 x]) := hown3
              obtain ⟨a3, c3, rfl⟩ := ownsRow_shape hown3'
              have Hown3 := Lib.hid hown3'
              have Hgrow3 := Lib.hid hgrow3
              have Hloc3 := Lib.hid hloc3
              obtain ⟨q0, q1, q2⟩ := cells3 hc3
              clear hown3 hown3' hgrow3 hloc3 ok3 hc3 k0 k1 k2 hrk2
              go_wp2_with (at_builtin; refine wpList_append_own_at _ rfl _ _ 22 rfl w.heap.size 3 i0 (.int .i64 0) 1 8 Tryd.under22 hi hz0 hz1 hz2 rfl (by decide) _ _ _ rfl (hrv3.alloc _) ⟨w3.heap.size, 0, none⟩ 1 1 [.int .i64 (wrap64 (y + 1))] rfl rfl (cell_one_new _ _ _) ?c2bf ?c3bf ?c4bf ?c5bf ?_)
              case c2bf => intro u hu; simp at hu; subst hu; rfl
              case c3bf => unfold maxLen; omega
              case c4bf => omega
              case c5bf => simp; omega
              intro v4 w4 hown4 hgrow4 _ hloc4
              have hown4' : w4.ownsRow w.heap.size 3 1 v4 (vs.length + 1) (I vs ++ [.int .i64 (wrap64 (y + 1))]) := by rw [Hop.out.len]; exact hown4
              have hrel4 : LRel w lb (j + 1) (.slice a3 (ks.length + 1) c3) v4 (ks ++ [x]) (vs ++ [(wrap64 (y + 1))]) w4 := LRel.grow (F := fun i => lfoot lb mv i ∨ i = rb) Hop.out.rk Hop.out.rv Hop.out.len Hop.out.d1 Hop.out.d2 Hop.out.d3 Hop.out.old Hop.out.le Hx.out Hlog.out Honly.out (fun i hi => by rcases hi with hi | hi; exact (Hop.out.log.lt i hi).1; rw [hi]; exact hbw) Hfrom.out Hown3.out Hgrow3.out (by simpa using Hloc3.out) hown4' hgrow4 (by simpa using hloc4)
              obtain ⟨a4, c4, rfl⟩ := ownsRow_shape hown4'
              have Hlen := Lib.hid hrel4.len
              have Hrel4 := Lib.hid hrel4
              clear hown4 hown4' hgrow4 hloc4 hrel4 hrv3 q0 q1 q2
              go_wp2_with (go_at_call 25; refine Hlen.out.mono ?_; rintro e w' ⟨rfl, rfl⟩)
              go_roundw
              case rel => exact ⟨j + 1, by omega, by go_num, _, _, Hrel4.out⟩
              case measure => simp [intOf]; omega
            · have ne4 : (kj == 4) = false := by simpa using e4
              obtain ⟨rb, hrb⟩ : ∃ rb, rb = w1.heap.size := ⟨_, rfl⟩
              have oa := Only.of_alloc w1 (.cells #[.int .i64 0] 3)
              have hrr : (w1.alloc (.cells #[.int .i64 0] 3)).heap[rb]? = some (.cells #[.int .i64 0] 3 (0, 0)) := by rw [hrb]; exact heap_alloc_new w1 _
              have hop2 := Hop.out.only oa
              have hrl : ¬ lfoot lb mv rb := fun e => by have := (Hop.out.log.lt rb e).2; omega
              have hrk : ∀ b, (Value.slice ka ks.length kc).ownBlock = some b → b ≠ rb := fun b hb e => by have := (Hop.out.rk.lt b hb).2; omega
              have hrv : ∀ b, (Value.slice va ks.length vc).ownBlock = some b → b ≠ rb := fun b hb e => by have := (Hop.out.rv.lt b hb).2; omega
              have hcr : cb ≠ rb := fun e => by have := lt_of_block Hop.out.c; omega
              have hmf : ∀ (fn : Fn) (first cap : Array Value) (w : World), (Instr.makeFunc fn first cap).run Tryd.prog w = .ok (.func fn first cap) w := fun _ _ _ _ => rfl
              have hbw : w.heap.size ≤ rb := by omega
              obtain ⟨k0', k1', k2'⟩ := cells3 hop2.c
              have Hop1 := Hop
              clear Hop
              have Hop := Lib.hid hop2
              have Hrr := Lib.hid hrr
              have hsz1' := hop2.old.size
              have Hrb := Lib.hid hrb
              have Hrl := Lib.hid hrl
              have Hrk := Lib.hid hrk
              have Hrv := Lib.hid hrv
              clear hop2 hrr oa hrb hrl hrk hrv
              go_wp2_with fail
              rw [← Hrb.out]
              generalize w1.alloc (.cells #[.int .i64 0] 3) = w1r at *
              clear hsz1 k0 k1 k2
              have hsz1 := hsz1'
              refine (oni_plain _ lb rb cb mv _ _ kj x y w1r hxw.out Hop.out.log Has.out (by omega) hsz1 Hrr.out Hop.out.c ne4 Hrl.out).mono ?_
              rintro e w2 ⟨rfl, mv2, hp⟩
              have honly := hp.only
              have hlog := hp.log
              have hfrom := hp.from'
              have hrn := hp.ran
              have hdk2 : ∀ b, (Value.slice ka ks.length kc).ownBlock = some b → ¬ (lfoot lb mv b ∨ b = rb) := fun b hb e => by rcases e with e | e; exact Hop.out.d1 b hb e; exact Hrk.out b hb e
              have hdv2 : ∀ b, (Value.slice va ks.length vc).ownBlock = some b → ¬ (lfoot lb mv b ∨ b = rb) := fun b hb e => by rcases e with e | e; exact Hop.out.d2 b hb e; exact Hrv.out b hb e
              have hc2 : w2.heap[cb]? = some (.cells #[.int .i64 kj, .int .i64 x, .int .i64 y] 44 (0, 0)) := by rw [hp.only.block cb (lt_of_block Hop.out.c) (fun e => by rcases e with e | e; exact Hop.out.cl e; exact hcr e)]; exact Hop.out.c
              clear hp k0' k1' k2'
              have hs2 := honly.size
              have hrk2 : w2.ownsRow w.heap.size 3 1 (.slice ka ks.length kc) ks.length (I ks) := ownsRow_only Hop.out.rk honly hdk2
              have hrv2 : w2.ownsRow w.heap.size 3 1 (.slice va ks.length vc) ks.length (I vs) := by have := ownsRow_only Hop.out.rv honly hdv2; rwa [Hop.out.len] at this
              obtain ⟨k0, k1, k2⟩ := cells3 hc2
              have Hc2 := Lib.hid hc2
              have Honly := Lib.hid honly
              have Hlog := Lib.hid hlog
              have Hfrom := Lib.hid hfrom
              have Hrv2 := Lib.hid hrv2
              have Hrk2 := Lib.hid hrk2
              have hsW : w.heap.size ≤ w2.heap.size := Nat.le_trans hsz1 hs2
              clear hc2 honly hlog hfrom hdk2 hdv2 hrv2
              go_wp2_with (at_builtin; refine wpList_append_own_at _ rfl _ _ 22 rfl w.heap.size 3 i0 (.int .i64 0) 1 8 Tryd.under22 hi hz0 hz1 hz2 rfl (by decide) _ _ _ rfl (hrk2.alloc _) ⟨w2.heap.size, 0, none⟩ 1 1 [.int .i64 x] rfl rfl (cell_one_new _ _ _) ?c2ap ?c3ap ?c4ap ?c5ap ?_)
              case c2ap => intro u hu; simp at hu; subst hu; rfl
              case c3ap => unfold maxLen; omega
              case c4ap => omega
              case c5ap => simp; omega
              intro v3 w3 hown3 hgrow3 _ hloc3
              have hs3 := hgrow3.size
              simp at hs3
              have ok3 : Only (fun i => (Value.slice ka ks.length kc).ownBlock = some i) w2 w3 := (Only.of_alloc w2 _).trans (Only.of_grown hgrow3) (fun _ (h : False) => h.elim) (fun _ h => .inl h)
              have hc3 : w3.heap[cb]? = some (.cells #[.int .i64 kj, .int .i64 x, .int .i64 y] 44 (0, 0)) := by rw [ok3.block cb (lt_of_block Hc2.out) (fun e => Hop.out.ck e)]; exact Hc2.out
              have hrv3 : w3.ownsRow w.heap.size 3 1 (.slice va ks.length vc) ks.length (I vs) := ownsRow_only Hrv2.out ok3 (fun b hb e => Hop.out.d3 b e hb)
              have hown3' : w3.ownsRow w.heap.size 3 1 v3 (ks.length + 1) (I ks ++ [.int .i64 x]) := hown3
              obtain ⟨a3, c3, rfl⟩ := ownsRow_shape hown3'
              have Hown3 := Lib.hid hown3'
              have Hgrow3 := Lib.hid hgrow3
              have Hloc3 := Lib.hid hloc3
              obtain ⟨q0, q1, q2⟩ := cells3 hc3
              clear hown3 hown3' hgrow3 hloc3 ok3 hc3 k0 k1 k2 hrk2
              go_wp2_with (at_builtin; refine wpList_append_own_at _ rfl _ _ 22 rfl w.heap.size 3 i0 (.int .i64 0) 1 8 Tryd.under22 hi hz0 hz1 hz2 rfl (by decide) _ _ _ rfl (hrv3.alloc _) ⟨w3.heap.size, 0, none⟩ 1 1 [.int .i64 y] rfl rfl (cell_one_new _ _ _) ?c2bp ?c3bp ?c4bp ?c5bp ?_)
              case c2bp => intro u hu; simp at hu; subst hu; rfl
              case c3bp => unfold maxLen; omega
              case c4bp => omega
              case c5bp => simp; omega
              intro v4 w4 hown4 hgrow4 _ hloc4
              have hown4' : w4.ownsRow w.heap.size 3 1 v4 (vs.length + 1) (I vs ++ [.int .i64 y]) := by rw [Hop.out.len]; exact hown4
              have hrel4 : LRel w lb (j + 1) (.slice a3 (ks.length + 1) c3) v4 (ks ++ [x]) (vs ++ [y]) w4 := LRel.grow (F := fun i => lfoot lb mv i ∨ i = rb) Hop.out.rk Hop.out.rv Hop.out.len Hop.out.d1 Hop.out.d2 Hop.out.d3 Hop.out.old Hop.out.le Hx.out Hlog.out Honly.out (fun i hi => by rcases hi with hi | hi; exact (Hop.out.log.lt i hi).1; rw [hi]; exact hbw) Hfrom.out Hown3.out Hgrow3.out (by simpa using Hloc3.out) hown4' hgrow4 (by simpa using hloc4)
              obtain ⟨a4, c4, rfl⟩ := ownsRow_shape hown4'
              have Hlen := Lib.hid hrel4.len
              have Hrel4 := Lib.hid hrel4
              clear hown4 hown4' hgrow4 hloc4 hrel4 hrv3 q0 q1 q2
              go_wp2_with (go_at_call 25; refine Hlen.out.mono ?_; rintro e w' ⟨rfl, rfl⟩)
              go_roundw
              case rel => exact ⟨j + 1, by omega, by go_num, _, _, Hrel4.out⟩
              case measure => simp [intOf]; omega
    · go_wp2_with fail
      go_ret
      obtain ⟨_, _, _, _, _, _, _, _, _, _, ho, _⟩ := Hrel.out
      exact ⟨rfl, ho⟩
end Go.Proofs.YtkjnopcmlppaaaaDoor
