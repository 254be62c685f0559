/- The graph of letters: Nodes, by a contract. -/
import Derived.Test.YthgkloapnihpaaaGreatM2
import Derived.Test.YthgkloapnihpaaaGreatM3
import Derived.Test.YthgkloapnihpaaaGreatUs
import Derived.Shelf.SlIter.Nil
import Derived.Shelf.SlIter.Sorted
namespace Go.Proofs.YthgkloapnihpaaaGreat
open Go.RowKit Go.Maps Go.WideMaps Go.WideElems Go.ChangeShapes Go.WideShapes
namespace S
theorem sortsS (m : Nat) : AnyZ.SortsIn Tryz.prog Tryz.keysStr_ren Fence.wide m :=
  ⟨fun blk off cap ss W hH hblk hsz => callsIn_wide.2 (Any.slices_Sort_string Tryz.sortStr blk off cap ss W hH hblk hsz),
   fun p cap W => callsIn_wide.2 (Any.slices_Sort_string_none Tryz.sortStr p cap W)⟩
theorem map_ltr_nodup : ∀ {L : List Int}, (∀ x ∈ L, fitS x) → L.Nodup → (L.map ltr).Nodup
  | [], _, _ => List.nodup_nil
  | x :: L, hf, hn => by
    rw [List.map_cons, List.nodup_cons]
    have hn2 := List.nodup_cons.1 hn
    refine ⟨fun hm => ?_, map_ltr_nodup (fun y hy => hf y (List.mem_cons_of_mem _ hy)) hn2.2⟩
    obtain ⟨y, hy, e⟩ := List.mem_map.1 hm
    have := ltr_inj (hf y (List.mem_cons_of_mem _ hy)) (hf x (by simp)) e
    exact hn2.1 (this ▸ hy)
/-- A map's keys are just these. -/
theorem dom_keys {b n : Nat} {L : List Int} {D : DV} {W : World} (h : DomAt Tryz.prog 9 sl fitS asIs b n L D W) (hn : L.Nodup) : (L.map ltr).Perm (strKeys D) := by
  obtain ⟨es, hD, hp, hk⟩ := h.own.entries K9
  subst hD
  refine perm_strKeys hp (fun p hpm => ?_) (map_ltr_nodup h.fit hn) fun x => ?_
  · have : Maps.has (.map es : DV) p.1 = true := by
      exact List.any_eq_true.2 ⟨p, hpm, WideAt.sameKey_self (hk p hpm)⟩
    obtain ⟨x, -, hx⟩ := h.only p.1 this
    exact ⟨_, hx⟩
  · constructor
    · intro hx
      obtain ⟨y, hy, rfl⟩ := List.mem_map.1 hx
      exact (h.has y (h.fit y hy)).2 hy
    · intro hx
      obtain ⟨y, hy, e⟩ := h.only _ hx
      have : x = ltr y := by simpa [sl] using e
      rw [this]
      exact List.mem_map_of_mem hy
theorem dom_size {b n : Nat} {L : List Int} {D : DV} {W : World} (h : DomAt Tryz.prog 9 sl fitS asIs b n L D W) : Maps.size D ≤ n := by
  obtain ⟨es, clock, hb, F, hs, hD⟩ := h.own
  rw [hD]
  simp only [Maps.size]
  rw [length_sorted]
  simpa using hs
/-- The number of a letter. -/
def unl (l : List UInt8) : Int := ((l.headD 0).toNat : Int) - 97
theorem unl_ltr {x : Int} (h : fitS x) : unl (ltr x) = x := by
  unfold fitS at h
  unfold unl ltr
  simp only [List.headD_cons]
  have : (97 + x.toNat).toUInt8.toNat = 97 + x.toNat := by
    simp
    omega
  omega
theorem le_ltr {x y : Int} (hx : fitS x) (hy : fitS y) (h : ltr x ≤ ltr y) : x ≤ y := by
  unfold fitS at hx hy
  unfold ltr at h
  by_cases e : x ≤ y
  · exact e
  · exfalso
    have h2 : (97 + y.toNat).toUInt8 < (97 + x.toNat).toUInt8 := by
      rw [UInt8.lt_iff_toNat_lt]
      simp
      omega
    exact List.not_lt.2 h (List.Lex.rel h2)
theorem sort_rise {ss : List (List UInt8)} {L : List Int} (hL : RiseI L) (hf : ∀ x ∈ L, fitS x) (hp : ss.Perm (L.map ltr)) : ss.mergeSort (fun x y => decide (x ≤ y)) = L.map ltr := by
  have hq := List.mergeSort_perm ss fun x y => decide (x ≤ y)
  have hs := List.pairwise_mergeSort (le := fun x y : List UInt8 => decide (x ≤ y)) (fun a b c h1 h2 => by simp at *; exact List.le_trans h1 h2) (fun a b => by simp; exact List.le_total a b) ss
  generalize ss.mergeSort (fun x y => decide (x ≤ y)) = r at hq hs
  have hr := hq.trans hp
  have hel : ∀ e ∈ r, ∃ x ∈ L, ltr x = e := fun e he => List.mem_map.1 (hr.mem_iff.1 he)
  have h1 : (r.map unl).Perm L := by
    have h2 := hr.map unl
    rw [List.map_map] at h2
    have h3 : L.map (unl ∘ ltr) = L := by
      conv => rhs; rw [← List.map_id L]
      exact List.map_congr_left fun x hx => unl_ltr (hf x hx)
    rwa [h3] at h2
  have h4 : r = (r.map unl).map ltr := by
    rw [List.map_map]
    conv => lhs; rw [← List.map_id r]
    refine List.map_congr_left fun e he => ?_
    obtain ⟨x, hx, rfl⟩ := hel e he
    show ltr x = ltr (unl (ltr x))
    rw [unl_ltr (hf x hx)]
  have h5 : r.map unl = L := by
    refine riseI_ext ?_ hL fun z => h1.mem_iff
    have hnd : (r.map unl).Nodup := h1.symm.nodup (riseI_nodup hL)
    have h6 : (r.map unl).Pairwise (fun x y => x ≤ y) := by
      rw [List.pairwise_map]
      refine hs.imp_of_mem fun {p q} hpm hqm hpq => ?_
      obtain ⟨x, hx, rfl⟩ := hel p hpm
      obtain ⟨y, hy, rfl⟩ := hel q hqm
      rw [unl_ltr (hf x hx), unl_ltr (hf y hy)]
      exact le_ltr (hf x hx) (hf y hy) (by simpa using hpq)
    refine (h6.and hnd).imp fun {p q} hpq => ?_
    have h7 := hpq.1
    have h8 := hpq.2
    omega
  rw [h4, h5]
set_option maxHeartbeats 16000000 in
set_option maxRecDepth 100000 in
theorem nodes_any {Z : Nat → Prop} {B g c : Nat} {N : List Int} {E : List Ed} (hc : c ≤ 100000) (w : World) (h : GrAt Z B g c N E w) :
    Calls Tryz.prog 12 #[.pointer (some ⟨g, 0, none⟩)] w fun e w' => ∃ v, e = .returned v ∧ Hid (w'.ownsRow w.heap.size 9 1 v N.length (N.map sv) ∧ Below w.heap.size w w') := by
  obtain ⟨ob, DO, F, DI, f, h, hZ⟩ := h
  have c0 := h.box.cell
  have hob := h.dom.own.lt
  have hsz := dom_size h.dom
  have hfit := h.dom.fit
  have hkeys := dom_keys h.dom (riseI_nodup h.nodes)
  have hseq : SeqGives Fence.wide 2 Tryz.prog 49 #[.pointer (some ⟨w.heap.size, 0, none⟩)] encStr (fun ss => ss.Perm (strKeys DO)) (Maps.size DO) (w.alloc (.cells #[.map (some ob)] 67)) :=
    AnyZ.keys_gives (ρ := Tryz.keysStr_ren) { Tryz.keysStr7 with } Fence.wide _ trivial rfl (by omega) w.heap.size ob c DO _ (by simp) (by simp) (by
      obtain ⟨es, clock, hb, Ft, hs, hD⟩ := h.dom.own
      exact ⟨es, clock, (Below.heap_alloc _ _ ob hob).trans hb, Ft, hs, hD⟩)
  have cK : Calls Tryz.prog 30 #[.map (some ob)] w fun e w' => e = .returned (.func (.func 49) #[] #[.pointer (some ⟨w.heap.size, 0, none⟩)]) ∧ w' = w.alloc (.cells #[.map (some ob)] 67) := callsIn_wide.1 (AnyZ.keys_in Tryz.keysStr7 Fence.wide 5 trivial rfl (some ob) w)
  have cS := AnyZ.sorted_in Tryz.keysStr6 Fence.wide 5 trivial trivial trivial trivial rfl (by omega) (sortsS _) (enters_of Tryz.func48 (by kernel_rfl) rfl) 49 #[.pointer (some ⟨w.heap.size, 0, none⟩)] trivial (enters_of Tryz.func49 (by kernel_rfl) rfl) _ _ (by unfold maxLen; omega) (by omega) _ hseq
  change CallsIn _ _ Tryz.prog 29 _ _ _ at cS
  have HS := Lib.hid (callsIn_wide.1 cS)
  have HK := Lib.hid cK
  have Hkeys := Lib.hid hkeys
  have Hr := Lib.hid h.nodes
  have Hfit := Lib.hid hfit
  clear hseq cS cK h hZ hob hsz hkeys hfit
  go_enter Tryz.func12, Tryz.ntmps12
  go_wp2_with (first
    | (go_at_call 30; (with_reducible refine HK.out.mono ?_); rintro e w1 ⟨rfl, rfl⟩)
    | (go_at_call 29; (with_reducible refine HS.out.mono ?_); rintro e w2 ⟨v, ss, rfl, hS, hrow, hnil, hb⟩
       have HR : Hid (w2.ownsRow (w.alloc (.cells #[.map (some ob)] 67)).heap.size 9 1 v ss.length ((ss.mergeSort (fun x y => decide (x ≤ y))).map encStr)) := hrow
       have HP := Lib.hid hS
       have HB := Lib.hid hb
       clear hS hrow hnil hb))
  go_ret
  refine ⟨v, rfl, ?_, ((Below.refl _ w).alloc (Nat.le_refl _) _).trans (HB.out.mono (by simp))⟩
  have hp : ss.Perm (N.map ltr) := HP.out.trans Hkeys.out.symm
  have h1 := HR.out
  rw [sort_rise Hr.out Hfit.out hp, hp.length_eq, List.length_map, List.map_map] at h1
  exact ⟨h1.1, h1.2.imp id fun ⟨q, cap, cur, e, hq, r⟩ => ⟨q, cap, cur, e, by simp at hq; omega, r⟩⟩
end S
end Go.Proofs.YthgkloapnihpaaaGreat
