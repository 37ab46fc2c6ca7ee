import PyProof.Rows.All
import Wide.All
import OpenK.AllK
import Wide.FinOn
import HandS.ForMost
import HandS.SetFor
import HandS.IsInst
import HandS.More
import HandS.SortInts
import PyProof.TupleOfSeq
import KE.GoesEnum
import HandS.ForExc
import HandS.ExcInit
import HandS.Strs
import HandS.TupSets
import HandS.Codes
import HandS.Defaults
import HandS.NoneIn
import HandS.TupAny
import HandS.OwnEq
import HandS.ExcField
import HandS.Deep
import KE.DataMinMax
import KE.KExcIs
import HandS.Head2
import HandS.HeadEnd
import HandS.HeadHook2
import PySem.Challenge.RW_headamid_k16_whole_fewest_hues_gone_thro
set_option Elab.async false
set_option linter.all false
set_option maxRecDepth 100000
set_option maxHeartbeats 4000000
namespace Kw
open PySem PySem.Spec PyProof.Rows L2

/-! ### as many different ones as there are -/
theorem len_le_of_sub : ∀ {ks ns : List Int}, ks.Nodup → (∀ k ∈ ks, k ∈ ns) → ks.length ≤ ns.length
  | [], _, _, _ => Nat.zero_le _
  | k :: r, ns, hn, hs => by
    have hk : k ∈ ns := hs k List.mem_cons_self
    obtain ⟨h1, h2⟩ := List.nodup_cons.mp hn
    have ih := len_le_of_sub (ks := r) (ns := ns.erase k) h2 fun y hy => by
      have ne : y ≠ k := fun e => h1 (by rw [← e]; exact hy)
      exact (List.mem_erase_of_ne ne).mpr (hs y (List.mem_cons_of_mem _ hy))
    rw [List.length_erase_of_mem hk] at ih
    have := List.length_pos_of_mem hk
    show r.length + 1 ≤ ns.length
    omega
theorem nodup_of_len : ∀ {ns ks : List Int}, ks.Nodup → (∀ k ∈ ks, k ∈ ns) → ns.length ≤ ks.length → ns.Nodup
  | [], _, _, _, _ => List.nodup_nil
  | n :: r, ks, hn, hs, hl => by
    by_cases hr : n ∈ r
    · have z := len_le_of_sub (ks := ks) (ns := r) hn fun k hk => by
        rcases List.mem_cons.mp (hs k hk) with e | e
        · rw [e]; exact hr
        · exact e
      have : r.length + 1 ≤ ks.length := hl
      omega
    · refine List.nodup_cons.mpr ⟨hr, nodup_of_len (ks := ks.erase n) (hn.erase n) (fun k hk => ?_) ?_⟩
      · have h1 := (hn.mem_erase_iff).mp hk
        rcases List.mem_cons.mp (hs k h1.2) with e | e
        · exact absurd e h1.1
        · exact e
      · have h2 : r.length + 1 ≤ ks.length := hl
        by_cases hm : n ∈ ks
        · rw [List.length_erase_of_mem hm]
          omega
        · rw [List.erase_of_not_mem hm]
          omega
theorem len_nodup {ks ns : List Int} (hn : ks.Nodup) (hs : ∀ k, k ∈ ks ↔ k ∈ ns) : ks.length = ns.length ↔ ns.Nodup :=
  ⟨fun e => nodup_of_len hn (fun k hk => (hs k).mp hk) (by omega), fun h => Nat.le_antisymm (len_le_of_sub hn fun k hk => (hs k).mp hk) (len_le_of_sub h fun k hk => (hs k).mpr hk)⟩
theorem firstMet_facts (ns : List Int) : ∀ i, i ≤ ns.length → (firstMet (fun i => ns.getD i 0) i).Nodup ∧ ∀ k, k ∈ firstMet (fun i => ns.getD i 0) i ↔ k ∈ ns.take i
  | 0, _ => ⟨List.nodup_nil, fun k => by simp [firstMet_zero]⟩
  | i + 1, hi => by
    obtain ⟨h1, h2⟩ := firstMet_facts ns i (Nat.le_of_succ_le hi)
    have hlt : i < ns.length := hi
    have e : ns.getD i 0 = ns[i] := by
      rw [List.getD_eq_getElem?_getD, List.getElem?_eq_getElem hlt] <;> rfl
    have tk : ns.take (i + 1) = ns.take i ++ [ns[i]] := by
      rw [List.take_add_one, List.getElem?_eq_getElem hlt] <;> rfl
    rw [firstMet_succ, tk]
    unfold step_dedup
    rw [e]
    by_cases hb : (firstMet (fun i => ns.getD i 0) i).any (· == ns[i]) = true
    · rw [if_pos hb]
      obtain ⟨y, hy, ey⟩ := List.any_eq_true.mp hb
      have ey2 : y = ns[i] := eq_of_beq ey
      refine ⟨h1, fun k => ⟨fun hk => List.mem_append_left _ ((h2 k).mp hk), fun hk => ?_⟩⟩
      rcases List.mem_append.mp hk with z | z
      · exact (h2 k).mpr z
      · rw [List.mem_singleton.mp z, ← ey2]
        exact hy
    · rw [if_neg hb]
      have hno : ns[i] ∉ firstMet (fun i => ns.getD i 0) i := fun z => hb (List.any_eq_true.mpr ⟨_, z, beq_iff_eq.mpr rfl⟩)
      refine ⟨List.nodup_append.mpr ⟨h1, by simp, fun a ha b hb' e' => hno ?_⟩, fun k => ?_⟩
      · rw [List.mem_singleton.mp hb'] at e'
        exact e' ▸ ha
      · rw [List.mem_append, List.mem_append, h2 k]
/-! ### len(set(xs)), xs a list or a tuple of ints, whatever they are -/
def tLenSetA (K : PySem.W.Frag) (ta : TE) : TE := fun σ H Q => ta σ H fun x H1 => ∃ (l : Addr) (ns : List Int), x = .ref l ∧ (SqL K H1 l (ns.map V.int) ∨ SqT K H1 l (ns.map V.int)) ∧ ns.length ≤ 4000 ∧ ∀ n : Nat, (n = ns.length ↔ ns.Nodup) → Q (.int n) H1
theorem intsAre_of : ∀ {ns : List Int} {us : List Value}, Vals (ns.map V.int) us → IntsAre us ns
  | [], _, .nil => .nil
  | n :: r, _, .cons h t => by
    obtain ⟨k, e⟩ := h
    rw [e]
    exact .cons n k (intsAre_of t)
theorem pe_lenSetA {X : Cx} {a : Expr} {ta : TE} {p p2 q pos : Pos} (hg : Gl X "len") (hm : X.mg "len" = none) (hg2 : Gl X "set") (hm2 : X.mg "set" = none) (ha : PE X a ta) (hc : X.calm = true := by rfl)
    (na : starEach [a] X.env = (false, eval a X.env) :: starEach [] X.env := by rfl) : PE X (.Call (.Name "len" p) [.Call (.Name "set" p2) [a] [] q] [] pos) (tLenSetA X.K ta) := by
  refine ⟨fun pins s σ H Q I h => Call_ (ld_blt I hg hm PySem.boot_len ?_)⟩
  refine callWith_builtin1 (args_cons (Call_ (ld_blt I hg2 hm2 PyProof.Rows.boot_set ?_)) rfl) rfl rfl
  refine callWith_type1 (args_cons (thn (ha.run pins s σ H _ I h) fun v s1 ⟨x, H1, I1, r1, q1⟩ => args_nil ?_) na) na rfl
  obtain ⟨l, ns, ex, hq, h4, q2⟩ := q1
  subst ex
  obtain rfl : v = Value.ref l := r1
  rcases hq with hq | hq
  · obtain ⟨its, r, pl, hz⟩ := I1.list hq
    have hlen : its.toArray.size = ns.length := by rw [List.size_toArray, ← r.length, List.length_map]
    have ia : IntsAre its.toArray.toList ns := by
      have z := intsAre_of r
      simpa using z
    refine call_set_list (I1.ok.hd hc) pl.isList ia (by rw [hlen]; unfold scanBound; omega) fun h' tk hS hk => args_nil ?_
    rw [hlen] at hS
    obtain ⟨f1, f2⟩ := firstMet_facts ns ns.length (Nat.le_refl _)
    rw [List.take_length] at f2
    have key := len_nodup f1 f2
    have le := firstMet_length_le (fun i => ns.getD i 0) ns.length
    generalize hm : (firstMet (fun i => ns.getD i 0) ns.length).length = m at hS key le
    obtain ⟨o, es, ep, t, ho, hex, hd, _, _, _, hf, hn⟩ := hS
    have I2 : Inv X pins σ H1 { s1 with heap := h', toks := tk } := I1.kept fun b o e => hk b o (Heap.lt_size e) e
    exact call_len_set ho hex hd hf (by rw [hn]; omega) ⟨.int m, H1, I2.tok _, ⟨_, by rw [hn]⟩, q2 m key⟩
  · obtain ⟨its, r, pl, hz⟩ := I1.tuple hq
    have ia : IntsAre its.toArray.toList ns := by
      have z := intsAre_of r
      simpa using z
    refine call_set_tupI ns (I1.ok.hd hc) pl ia (by unfold scanBound; omega) fun h' tk c hS hc' hk => args_nil ?_
    obtain ⟨o, es, ep, t, ho, hex, hd, hg3, hnd, hmem, hbd, hf, hn, _, _⟩ := hS
    have key := len_nodup hnd (ns := ns) fun k => (hmem k).symm.trans (by simp)
    have e1 : (es.toList.map keyOf).length = es.size := by rw [List.length_map, Array.length_toList]
    rw [e1] at key
    have I2 : Inv X pins σ H1 { s1 with heap := h', toks := tk } := I1.kept fun b o e => hk b o e
    exact call_len_set ho hex hd hf (by unfold scanBound at hbd; omega) ⟨.int es.size, H1, I2.tok _, ⟨_, rfl⟩, q2 es.size key⟩
end Kw

set_option maxRecDepth 100000
set_option maxHeartbeats 4000000
namespace Kw
open PySem PySem.Spec PyProof.Rows L2
theorem ints_at : ∀ {us : List Value} {ks : List Int}, us.length = ks.length → (∀ (j : Nat) (v : Value), us[j]? = some v → ∃ (x : Int) (t : Tok), ks[j]? = some x ∧ v = Value.int x t) → IntsAre us ks
  | [], [], _, _ => .nil
  | u :: us, k :: ks, hl, h => by
    obtain ⟨x, t, e1, e2⟩ := h 0 u rfl
    obtain rfl : k = x := Option.some.inj e1
    rw [e2]
    exact .cons _ _ (ints_at (Nat.succ.inj hl) fun j v e => h (j + 1) v e)
  | [], _ :: _, hl, _ => by cases hl
  | _ :: _, [], hl, _ => by cases hl
/-- sorted(d), d a dict whose keys are ints -/
def rSortDI : List V → Hp → VK → Prop := fun xs H Q => ∃ (a : Addr) (kvs : List (Key × V)) (ks : List Int), xs = [.ref a] ∧ Rd H a (.dK kvs) ∧ kvs.map (·.1) = ks.map Sum.inl ∧ ks.length ≤ 4000 ∧
  ∀ (ys : List Int) (p : Addr), ys.Perm ks → ys.Pairwise (· ≤ ·) → H p = none → Q (.ref p) (upd H p (.lst (ys.map V.int)))
theorem call_sortedDI {X : Cx} (hcalm : X.calm = true) : CallR X (.builtin "sorted") rSortDI := by
  intro pins s σ H xs us Q I r q
  obtain ⟨a, kvs, ks, ex, hd, hks, h64, q⟩ := q
  subst ex
  obtain ⟨u, eu, rx⟩ := vals1 r
  subst eu
  obtain rfl : u = Value.ref a := rx
  obtain ⟨z, lo, vs, rel, dd⟩ := dk_rd I.hok hd
  obtain ⟨ep, hat⟩ := dd.dictAt
  have hkeys : vs.map (·.1) = ks.map Sum.inl := rel.keys.symm.trans hks
  have hl : vs.length = ks.length := by simpa using congrArg List.length hkeys
  have h16 : vs.length ≤ sizeLine := by rw [hl]; exact Nat.le_trans h64 (by decide)
  refine Calls.call_function_entry kind_sorted plain_sorted entry_sorted (args_sorted1 _) ?_
  unfold Builtin.«sorted»
  refine wpAny_bind (m := checkCount "sorted" 1 1 _) (wpAny_pure (wpAny_bind ?_))
  refine PySem.W.kdu_collect (A := X.A.in1) (PySem.W.kdl_dict (knd := mixKind X.prog X.w) (kvs := vs) (ep := ep) lo) (I.ok.hd hcalm) hat h16 fun h' tk acc hk hacc => ?_
  have hal : acc.toList.length = ks.length := by rw [Array.length_toList, hacc.1, hl]
  have hI : IntsAre acc.toList ks := ints_at hal fun j v e => by
    obtain ⟨k, x, e1, e2⟩ := hacc.2 j v (by rw [← Array.getElem?_toList]; exact e)
    have e3 : (vs.map (·.1))[j]? = some k := by rw [List.getElem?_map, e1] <;> rfl
    rw [hkeys, List.getElem?_map] at e3
    obtain ⟨y, e4, e5⟩ := Option.map_eq_some_iff.mp e3
    subst e5
    obtain ⟨t, ev⟩ := Value.isInt_shape (k := y) (v := v) e2
    exact ⟨y, t, e4, ev⟩
  have I1 : Inv X pins σ H { s with heap := h', toks := tk } := I.kept hk
  have hZ : acc.toList.length ≤ sizeLine := by rw [hal]; exact Nat.le_trans h64 (by decide)
  refine wpAny_bind (wpAny_newList ?_ hZ)
  have hoL : (h'.push (seqObj "list" acc.toList.toArray 0)).get? h'.objs.size = some (seqObj "list" acc.toList.toArray 0) := Heap.get?_push_size _ rfl
  show wpAny _ _ _ _ _ { s with heap := h'.push (seqObj "list" acc.toList.toArray 0), toks := tk }
  refine wpAny_bind (wpAny_holding (wpAny_call_entry slot_list_sort ⟨_, hoL, rfl⟩ entry_list_sort ?_ (args_list_sort _)))
  refine SrtO.list_sort_ord SrtO.swo_int hoL hZ (fun h2 => SrtO.ints_sortable hI h2) fun out g1 g2 => ⟨_, rfl, ?_⟩
  obtain ⟨k1, k2, k3⟩ := SrtO.ints_out hI g1 g2
  obtain ⟨e', he'⟩ := sortedHeap_at (vs := acc.toList) (out := out.toArray) hoL
  have hlen : ((out.map SrtO.iv).map V.int).length ≤ sizeLine := by
    rw [List.length_map, k2.length_eq]
    exact Nat.le_trans h64 (by decide)
  refine wpAny_pure ⟨_, rfl, .ref h'.objs.size, upd H h'.objs.size (.lst ((out.map SrtO.iv).map V.int)), I1.laid (t' := tk) (fun b u e => ?_) (Nat.le_refl _)
    (show ObjOk X.prog X.w _ _ _ (.lst ((out.map SrtO.iv).map V.int)) from ⟨hlen, out, e', vals_of_ints k1, he'⟩), rfl, q _ _ k2 k3 (I1.hok.fresh (Nat.le_refl _))⟩
  have hb : b < h'.objs.size := Heap.lt_size e
  rw [sortedHeap_old (Nat.ne_of_lt hb) (by rw [size_push']; exact Nat.lt_succ_of_lt hb)]
  exact Heap.get?_push_of_some _ e
end Kw

set_option maxRecDepth 100000
set_option maxHeartbeats 4000000
namespace Kw
open PySem PySem.Spec PyProof.Rows L2
/-- one rule or another, for a place where either kind of thing may stand -/
theorem pg_or {X : Cx} {tg : Expr} {t1 t2 : TG} (h1 : PG X tg t1) (h2 : PG X tg t2) : PG X tg (fun v σ H Q => t1 v σ H Q ∨ t2 v σ H Q) :=
  ⟨fun pins s σ H v u Q I r h => h.elim (h1.run pins s σ H v u Q I r) (h2.run pins s σ H v u Q I r)⟩
theorem pi_or {X : Cx} {tg e : Expr} {w1 w2 : TI} (h1 : PI X tg e w1) (h2 : PI X tg e w2) : PI X tg e (fun σ H R => w1 σ H R ∨ w2 σ H R) :=
  ⟨fun pins s σ H R I h => h.elim (h1.run pins s σ H R I) (h2.run pins s σ H R I)⟩
theorem call_or {X : Cx} {f : Value} {r1 r2 : List V → Hp → VK → Prop} (h1 : CallR X f r1) (h2 : CallR X f r2) : CallR X f (fun vs H Q => r1 vs H Q ∨ r2 vs H Q) :=
  fun pins s σ H xs us Q I r h => h.elim (h1 pins s σ H xs us Q I r) (h2 pins s σ H xs us Q I r)
theorem pe_or {X : Cx} {e : Expr} {t1 t2 : TE} (h1 : PE X e t1) (h2 : PE X e t2) : PE X e (fun σ H Q => t1 σ H Q ∨ t2 σ H Q) :=
  ⟨fun pins s σ H Q I h => h.elim (h1.run pins s σ H Q I) (h2.run pins s σ H Q I)⟩
/-- sorted(t), t a list or a tuple of whole numbers -/
def rSortSI (K : PySem.W.Frag) : List V → Hp → VK → Prop := fun xs H Q => ∃ (a : Addr) (ks : List Int), xs = [.ref a] ∧ (SqL K H a (ks.map V.int) ∨ SqT K H a (ks.map V.int)) ∧
  ∀ (ys : List Int) (p : Addr), ys.Perm ks → ys.Pairwise (· ≤ ·) → H p = none → Q (.ref p) (upd H p (.lst (ys.map V.int)))
theorem call_sortedSI {X : Cx} : CallR X (.builtin "sorted") (rSortSI X.K) := by
  intro pins s σ H xs us Q I r q
  obtain ⟨a, ks, ex, hd, q⟩ := q
  subst ex
  rcases hd with hd | hd
  · exact cr_sortedI pins s σ H _ us Q I r ⟨a, ks, rfl, hd, q⟩
  · obtain ⟨u, eu, rx⟩ := vals1 r
    subst eu
    obtain rfl : u = Value.ref a := rx
    obtain ⟨its, rv, p, hz⟩ := I.tuple hd
    have hI : IntsAre its ks := rv.ints
    obtain ⟨o, ho, hc, n, hdt⟩ : s.heap.IsTuple a its.toArray := p
    have hzi : its.toArray.size ≤ sizeLine := by
      rw [List.size_toArray, ← rv.length]
      exact hz
    refine Calls.call_function_entry kind_sorted plain_sorted entry_sorted (args_sorted1 _) ?_
    unfold Builtin.«sorted»
    refine wpAny_bind (m := checkCount "sorted" 1 1 _) (wpAny_pure (wpAny_bind ?_))
    refine wpAny_collect_seq a (T := "tuple") (.inr rfl) ho hc hdt (hsz := hzi) fun h' hk => ?_
    have ea : its.toArray.toList = its := rfl
    rw [ea]
    have I1 : Inv X pins σ H { s with heap := h' } := I.kept (t' := s.toks) hk
    have hZ : its.length ≤ sizeLine := by
      rw [← rv.length]
      exact hz
    refine wpAny_bind (wpAny_newList ?_ hZ)
    have hoL : (h'.push (seqObj "list" its.toArray 0)).get? h'.objs.size = some (seqObj "list" its.toArray 0) := Heap.get?_push_size _ rfl
    show wpAny _ _ _ _ _ { s with heap := h'.push (seqObj "list" its.toArray 0) }
    refine wpAny_bind (wpAny_holding (wpAny_call_entry slot_list_sort ⟨_, hoL, rfl⟩ entry_list_sort ?_ (args_list_sort _)))
    refine SrtO.list_sort_ord SrtO.swo_int hoL hZ (fun h2 => SrtO.ints_sortable hI h2) fun out g1 g2 => ⟨_, rfl, ?_⟩
    obtain ⟨k1, k2, k3⟩ := SrtO.ints_out hI g1 g2
    obtain ⟨e', he'⟩ := sortedHeap_at (vs := its) (out := out.toArray) hoL
    have hlen : ((out.map SrtO.iv).map V.int).length ≤ sizeLine := by
      rw [List.length_map, k2.length_eq, ← List.length_map (f := V.int)]
      exact hz
    refine wpAny_pure ⟨_, rfl, .ref h'.objs.size, upd H h'.objs.size (.lst ((out.map SrtO.iv).map V.int)), I1.laid (t' := s.toks) (fun b u e => ?_) (Nat.le_refl _)
      (show ObjOk X.prog X.w _ _ _ (.lst ((out.map SrtO.iv).map V.int)) from ⟨hlen, out, e', vals_of_ints k1, he'⟩), rfl, q _ _ k2 k3 (I1.hok.fresh (Nat.le_refl _))⟩
    have hb : b < h'.objs.size := Heap.lt_size e
    rw [sortedHeap_old (Nat.ne_of_lt hb) (by rw [size_push']; exact Nat.lt_succ_of_lt hb)]
    exact Heap.get?_push_of_some _ e
end Kw

set_option maxRecDepth 100000
set_option maxHeartbeats 4000000
namespace PySem
open Sem (wp)
open AutoSeq1 (wpAny_loadPart')
theorem meets_enumerate_newV {v : Value} {o : Obj} {H : Heap → Prop} (B : Begins v o H) :
    Meets (Builtin.«enumerate.__new__» ⟨[.type "enumerate", v], []⟩) (fun _ R s => H s.heap ∧
      R (.ok (.ret (.ref (s.heap.push o).objs.size))) { s with heap := (s.heap.push o).push { cls := .type "enumerate", data := .fields #[.none, .bool false, .ref s.heap.objs.size, rawInt 0, .none, .none] } }) :=
  .of_wp fun prog w A R s h => by
    obtain ⟨hp, g, d, tk, os⟩ := s; obtain ⟨h1, h⟩ := h
    have hsub := sub_enumerate
    have q1 : ∀ {A' : Around} {E : Value → Shared → Prop} {Q : Value → Shared → Prop}, Q (.ref hp.objs.size) ⟨hp.push o, g, d, tk, os⟩ → wpAny (model prog w) A' (pyIter v) Q E ⟨hp, g, d, tk, os⟩ :=
      fun q => B.iter prog w _ _ ⟨hp, g, d, tk, os⟩ _ h1 q
    wp_walk using q1
    refine wpAny_stack_any fun st => wpAny_pure ?_
    split
    · rename_i c _ _ _ _ _
      cases (c == Value.type "enumerate")
      · wp_walk using q1
        exact ⟨_, rfl, h⟩
      · wp_walk using q1
        exact ⟨_, rfl, h⟩
    · wp_walk using q1
      exact ⟨_, rfl, h⟩
section
variable {prog : Program} {w : World} {A : Around} {E : Value → Shared → Prop} {s : Shared}
theorem call_enumerate_tuple {l : Addr} {items : Array Value} {Q : Value → Shared → Prop} (hL : s.heap.IsTuple l items)
    (h : ∀ h', IsEnum h' (s.heap.objs.size + 1) s.heap.objs.size 0 .none → h'.IsTupleIter s.heap.objs.size l 0 → h'.objs.size = s.heap.objs.size + 2 →
      (∀ b o, s.heap.get? b = some o → h'.get? b = some o) → Q (.ref (s.heap.objs.size + 1)) { s with heap := h' }) :
    wpAny (model prog w) A (call (.type "enumerate") [.ref l]) Q E s := by
  refine callType_new F.called_enumerate (by decide) (F.typeCall_enumerate_1 _) (F.newCall_enumerate_1 _) (fun obj => F.args_object_init_2 obj _) F.entry_enumerate_new
    (meets_enumerate_newV (begins_tuple l items)) ⟨hL, ?_⟩
  have hz : (s.heap.push { cls := .type "tuple_iterator", data := .fields #[.ref l, .int 0 0] }).objs.size = s.heap.objs.size + 1 := Heap.size_push ..
  show _ ∧ _
  rw [hz]
  have he : IsEnum ((s.heap.push { cls := .type "tuple_iterator", data := .fields #[.ref l, .int 0 0] }).push
      { cls := .type "enumerate", data := .fields #[.none, .bool false, .ref s.heap.objs.size, rawInt 0, .none, .none] }) (s.heap.objs.size + 1) s.heap.objs.size 0 .none := by
    have := Heap.get?_push_size (s.heap.push { cls := .type "tuple_iterator", data := .fields #[.ref l, .int 0 0] })
      (o := { cls := .type "enumerate", data := .fields #[.none, .bool false, .ref s.heap.objs.size, rawInt 0, .none, .none] }) rfl
    rw [hz] at this; exact this
  refine ⟨⟨_, he, rfl⟩, h _ he ⟨_, Heap.get?_push_of_some _ (Heap.get?_push_size _ rfl), rfl, rfl⟩ (by rw [Heap.size_push, hz]) fun b o x => Heap.get?_push_of_some _ (Heap.get?_push_of_some _ x)⟩
end
end PySem
namespace L2
open PySem PySem.Spec PyProof.Rows
/-- the tuple at a, each item in a new pair -/
def Itet (K : PySem.W.Frag) (a : Addr) : It :=
  ⟨fun i H => ∃ (xs : List V) (x : V), SqT K H a xs ∧ xs[i]? = some x, fun i H v H' => ∃ T x, v = .ref T ∧ H T = none ∧ H' = upd H T (.tup [.int (i : Nat), x]) ∧ ∀ xs, SqT K H a xs → xs[i]? = some x, fun i H => ∃ xs : List V, SqT K H a xs ∧ xs.length = i⟩
theorem turn_enumT {P : Program} {w : World} {K : PySem.W.Frag} {elts : List Expr} {kk : Nat} {tpos : Pos} (a e it : Addr) :
    Turn P w K (.Tuple elts kk tpos) (Itet K a) [e, it] e (fun i h => (∃ old, IsEnum h e it ((i : Nat) : Int) old) ∧ h.IsTupleIter it a i ∧ e ≠ it) where
  mem := by simp
  obj := fun i h st b hb => by
    obtain ⟨⟨old, he⟩, ⟨o, ho, hc, hd⟩, _⟩ := st
    have e' : b = e ∨ b = it := by simpa using hb
    rcases e' with z | z
    · rw [z]; exact ⟨_, he, fun v q => nomatch q⟩
    · rw [z]; exact ⟨o, ho, fun v q => by rw [hd] at q; cases q⟩
  keep := fun i h h' st k => let ⟨⟨old, he⟩, hi, hne⟩ := st; ⟨⟨old, k e (by simp) _ he⟩, hi.at fun o q => k it (by simp) o q, hne⟩
  item := by
    intro X hP hw hK hc i pins s σ H E I hf st hg
    subst hP hw hK
    obtain ⟨⟨old, he⟩, hit, hne⟩ := st
    obtain ⟨xs, x, hq, hx⟩ := hg
    obtain ⟨its, rv, p, hz⟩ := I.tuple hq
    obtain ⟨u, hu, ru⟩ := rv.get hx
    have hT0 : s.heap.IsTuple a its.toArray := p
    have hel : e < s.heap.objs.size := Heap.lt_size he
    have hil : it < s.heap.objs.size := by obtain ⟨_, q, _⟩ := hit; exact Heap.lt_size q
    have hea : e ≠ a := fun z => by
      obtain ⟨o, q1, q2, _⟩ := hT0
      rw [← z, he] at q1
      have q3 := Option.some.inj q1
      subst q3
      exact absurd (Value.type.inj q2) (by decide)
    have hai : a ≠ it := fun z => by
      obtain ⟨o, q1, q2, _⟩ := hT0
      obtain ⟨o', r1, r2, _⟩ := hit
      rw [z, r1] at q1
      have q3 := Option.some.inj q1
      subst q3
      rw [q2] at r2
      exact absurd (Value.type.inj r2) (by decide)
    have hii : i < its.toArray.size := by
      rw [List.size_toArray]
      exact (List.getElem?_eq_some_iff.mp hu).1
    refine wpAny_pyNext_enum_itemD (Draws.tuple (show X.A.in1.handled = none from I.ok.hd hc) it a hai its.toArray) he ⟨hit, hT0⟩ hii hne (by simp [hne, hea]) fun v h' tk hv ho hit' hT hsz hk => ?_
    obtain rfl : u = v := by
      have z : its.toArray[i]? = some u := by simpa using hu
      exact Option.some.inj (z.symm.trans hv)
    refine ⟨_, rfl, wpAny_letOwnedTupleGo_enum (s := { s with heap := h', toks := tk + 1 }) ho fun h'' he' sb => ?_⟩
    have hT2 : h''.get? s.heap.objs.size = some { cls := .type "tuple", data := .seq #[.int i tk, u] } := (sb.2 _ (Nat.ne_of_gt hel)).trans hT
    have new : ObjOk X.prog X.w (upd H s.heap.objs.size (.tup [.int (i : Nat), x])) h'' s.heap.objs.size (.tup [.int (i : Nat), x]) :=
      ⟨by show 2 ≤ sizeLine; decide, [.int i tk, u], .cons ⟨_, rfl⟩ (.cons ru .nil), ⟨_, hT2, rfl, _, rfl⟩⟩
    have I1 : Inv X pins σ (upd H s.heap.objs.size (.tup [.int (i : Nat), x])) { s with heap := h'', toks := tk + 1 } :=
      I.turnedNew (ch := [e, it]) (fun b ob hb q => (sb.2 b (fun z => hb (by simp [z]))).trans (hk b ob (fun z => hb (by simp [z])) (fun z => hb (by simp [z])) q)) hf (Nat.le_refl _) new
    refine ⟨.ref s.heap.objs.size, _, I1, rfl, ⟨_, x, rfl, I.hok.fresh (Nat.le_refl _), rfl, fun ys hy => by rw [I.tuple_inj hy hq]; exact hx⟩, ⟨⟨u, ?_⟩, hit'.1.at fun o q => (sb.2 it (Ne.symm hne)).trans q, hne⟩, fun b hb => ?_⟩
    · have e1 : ((i + 1 : Nat) : Int) = (i : Int) + 1 := by omega
      rw [e1]; exact he'
    · have hb' : b < s.heap.objs.size := by
        have e' : b = e ∨ b = it := by simpa using hb
        rcases e' with z | z
        · rw [z]; exact hel
        · rw [z]; exact hil
      rw [upd_ne (Nat.ne_of_lt hb')]
      exact (hf b hb).1
  done := by
    intro X hP hw hK hc i pins s σ H E I hf st hg
    subst hP hw hK
    obtain ⟨⟨old, he⟩, hit, hne⟩ := st
    obtain ⟨xs, hq, hx⟩ := hg
    obtain ⟨its, rv, p, hz⟩ := I.tuple hq
    have hT0 : s.heap.IsTuple a its.toArray := p
    obtain ⟨f0, f1, f2, f3, f4, f5⟩ := hf it (by simp)
    have hl := rv.length
    have hai : a ≠ it := fun z => by
      obtain ⟨o, q1, q2, _⟩ := hT0
      obtain ⟨o', r1, r2, _⟩ := hit
      rw [z, r1] at q1
      have q3 := Option.some.inj q1
      subst q3
      rw [q2] at r2
      exact absurd (Value.type.inj r2) (by decide)
    have hn : its.toArray.size = i := by
      rw [List.size_toArray]
      omega
    refine wpAny_pyNext_enum_endD (n := i) (it := it) (fp := [it, a]) (P := fun i v => its.toArray[i]? = some v) (St := fun i h => h.IsTupleIter it a i ∧ h.IsTuple a its.toArray) ?_ he ⟨hit, hT0⟩ fun h' eb => ⟨rfl, I.turned (t' := s.toks) (fun b o hb q => eb b o hb q) f0 f1 f3 f4 f5⟩
    have D := Draws.tuple (prog := X.prog) (w := X.w) (show X.A.in1.handled = none from I.ok.hd hc) it a hai its.toArray
    rw [hn] at D
    exact D
  self := fun A i s Q E st h => let ⟨⟨_, he⟩, _⟩ := st; wpAny_pyIter_enum he h
def iEnumT (K : PySem.W.Frag) (ta : TA) : TI := fun σ H R => ta σ H fun vs H1 => ∃ a xs, vs = [.ref a] ∧ SqT K H1 a xs ∧ R (Itet K a) H1
theorem pi_enumT {X : Cx} {e : Expr} {ta : TA} {p pos tpos : Pos} {elts : List Expr} {kk : Nat} (hg : Gl X "enumerate") (hm : X.mg "enumerate" = none) (ha : PA X [e] ta) (hs : starEach [e] X.env = [(false, eval e X.env)] := by rfl) :
    PI X (.Tuple elts kk tpos) (.Call (.Name "enumerate" p) [e] [] pos) (iEnumT X.K ta) := by
  refine ⟨fun pins s σ H R I h => ?_⟩
  refine Call_ (ld_blt I hg hm boot_enumerate (PyProof.Rows.callWith_type1 (thn (ha.run pos pins s σ H _ I h) fun us s1 ⟨vs, H1, I1, r1, q1⟩ => ?_) hs rfl))
  obtain ⟨a, xs, ex, hq, q⟩ := q1
  subst ex
  cases r1 with
  | cons r rr =>
    cases rr
    cases r
    obtain ⟨its, rv, p', hz⟩ := I1.tuple hq
    refine call_enumerate_tuple (show s1.heap.IsTuple a its.toArray from p') fun h' he hit hsz hk => wpAny_pyIter_enum he ?_
    have I2 : Inv X pins σ H1 { s1 with heap := h' } := I1.kept (t' := s1.toks) hk
    refine ⟨s1.heap.objs.size + 1, [s1.heap.objs.size + 1, s1.heap.objs.size], _, _, H1, rfl, I2, turn_enumT a (s1.heap.objs.size + 1) s1.heap.objs.size, ⟨⟨.none, he⟩, hit, Nat.succ_ne_self _⟩, fun b hb => ?_, q⟩
    have e' : b = s1.heap.objs.size + 1 ∨ b = s1.heap.objs.size := by simpa using hb
    have hle : s1.heap.objs.size ≤ b := by
      rcases e' with z | z
      · rw [z]; exact Nat.le_add_right _ _
      · rw [z]; exact Nat.le_refl _
    exact I1.fpOk hle (I1.hok.fresh hle)
/-- the turns over a tuple that stands -/
theorem for_enumT {K : PySem.W.Frag} {a : Addr} {xs : List V} {g : TG} {tb : TS} {D : Ends} {σ : St} {H : Hp} (Pv : Nat → St → Hp → Prop) (h0 : Pv 0 σ H) (hl : ∀ i σ H, i ≤ xs.length → Pv i σ H → SqT K H a xs)
    (hs : ∀ i x σ H T, xs[i]? = some x → Pv i σ H → H T = none → g (.ref T) σ (upd H T (.tup [.int (i : Nat), x])) fun σ2 H2 => tb { D with nx := Pv (i + 1), ct := Pv (i + 1), bk := D.nx } σ2 H2) (hd : ∀ σ H, Pv xs.length σ H → D.nx σ H) :
    ∃ W : Nat → Nat → St → Hp → Prop, (∃ m, W 0 m σ H) ∧ ∀ i m σ H, W i m σ H →
      ((Itet K a).stop i H ∧ D.nx σ H) ∨ ((Itet K a).go i H ∧ ∃ N : St → Hp → Prop, (∀ σ' H', N σ' H' → ∃ m', m' < m ∧ W (i + 1) m' σ' H') ∧ ∀ x H', (Itet K a).yld i H x H' → g x σ H' fun σ2 H2 => tb { D with nx := N, ct := N, bk := D.nx } σ2 H2) := by
  refine ⟨fun i m σ H => m = xs.length - i ∧ i ≤ xs.length ∧ Pv i σ H, ⟨xs.length, by simp, Nat.zero_le _, h0⟩, ?_⟩
  rintro i m σ H ⟨rfl, hi, p⟩
  have q := hl i σ H hi p
  by_cases hlt : i < xs.length
  · refine .inr ⟨⟨xs, xs[i], q, by simp [hlt]⟩, Pv (i + 1), fun σ' H' p' => ⟨xs.length - (i + 1), by omega, rfl, hlt, p'⟩, fun x H' y => ?_⟩
    obtain ⟨T, z, e1, e2, e3, e4⟩ := y
    subst e1 e3
    exact hs i z σ H T (e4 xs q) p e2
  · have e : i = xs.length := by omega
    subst e
    exact .inl ⟨⟨xs, q, rfl⟩, hd σ H p⟩
theorem for_enumL {K : PySem.W.Frag} {a : Addr} {xs : List V} {g : TG} {tb : TS} {D : Ends} {σ : St} {H : Hp} (Pv : Nat → St → Hp → Prop) (h0 : Pv 0 σ H) (hl : ∀ i σ H, i ≤ xs.length → Pv i σ H → SqL K H a xs)
    (hs : ∀ i x σ H T, xs[i]? = some x → Pv i σ H → H T = none → g (.ref T) σ (upd H T (.tup [.int (i : Nat), x])) fun σ2 H2 => tb { D with nx := Pv (i + 1), ct := Pv (i + 1), bk := D.nx } σ2 H2) (hd : ∀ σ H, Pv xs.length σ H → D.nx σ H) :
    ∃ W : Nat → Nat → St → Hp → Prop, (∃ m, W 0 m σ H) ∧ ∀ i m σ H, W i m σ H →
      ((Ite K a).stop i H ∧ D.nx σ H) ∨ ((Ite K a).go i H ∧ ∃ N : St → Hp → Prop, (∀ σ' H', N σ' H' → ∃ m', m' < m ∧ W (i + 1) m' σ' H') ∧ ∀ x H', (Ite K a).yld i H x H' → g x σ H' fun σ2 H2 => tb { D with nx := N, ct := N, bk := D.nx } σ2 H2) := by
  refine ⟨fun i m σ H => m = xs.length - i ∧ i ≤ xs.length ∧ Pv i σ H, ⟨xs.length, by simp, Nat.zero_le _, h0⟩, ?_⟩
  rintro i m σ H ⟨rfl, hi, p⟩
  have q := hl i σ H hi p
  by_cases hlt : i < xs.length
  · refine .inr ⟨⟨xs, xs[i], q, by simp [hlt]⟩, Pv (i + 1), fun σ' H' p' => ⟨xs.length - (i + 1), by omega, rfl, hlt, p'⟩, fun x H' y => ?_⟩
    obtain ⟨T, z, e1, e2, e3, e4⟩ := y
    subst e1 e3
    exact hs i z σ H T (e4 xs q) p e2
  · have e : i = xs.length := by omega
    subst e
    exact .inl ⟨⟨xs, q, Nat.le_refl _⟩, hd σ H p⟩
end L2

set_option maxRecDepth 100000
set_option maxHeartbeats 4000000
namespace Kw
open PySem PySem.Spec PyProof.Rows L2
/-- the fields that such an __init__ leaves, the last first -/
def errF (ps : List Str) (vs : List V) : List (Str × V) := (ps.zip vs).reverse
/-- an error's __init__ that keeps all its parameters, one or more, in their order -/
def spR (C : Addr) (ps : List Str) : Sp := fun vs H Q _ => ∃ (a : Addr) (xs : List V), vs = .ref a :: xs ∧ xs.length = ps.length ∧ H a = some (exo a C none) ∧
  ∀ d H', H d = none → d ≠ a → H' a = some (exo a C (some d)) → H' d = some (exd d (errF ps xs)) → (∀ b o, b ≠ a → H b = some o → H' b = some o) → Q .non H'
/-- what a raise of it asks, once its arguments are read -/
theorem raise_q {C : Addr} {ps : List Str} {H1 : Hp} {vs : List V} {Q : XK} (hl : vs.length = ps.length) (hz : ps.length ≤ 1000) (q : ∀ d H', Same H1 H' → H1 d = none → H' d = some (.xd (errF ps vs)) → Q (.ref C) (some d) H') :
    vs.length ≤ 1000 ∧ ∀ a, H1 a = none → spR C ps (.ref a :: (vs ++ [])) (upd H1 a (exo a C none))
      (fun v H2 => v = .non ∧ ∃ (d : Addr) (fs : List (Str × V)), H2 a = some (exo a C (some d)) ∧ H2 d = some (exd d fs) ∧ H1 d = none ∧ Q (.ref C) (some d) (upd (del H2 a) d (.xd fs))) (fun _ _ _ => False) := by
  refine ⟨by omega, fun a ha => ⟨a, vs, by rw [List.append_nil], hl, upd_same, fun d H' hd hda e1 e2 s => ?_⟩⟩
  rw [upd_ne hda] at hd
  refine ⟨rfl, d, _, e1, e2, hd, q d _ (fun b o e => ?_) hd upd_same⟩
  have hba : b ≠ a := ne_of_none e ha
  rw [upd_ne (ne_of_none e hd), del_ne hba]
  exact s b o hba (by rw [upd_ne hba]; exact e)
/-- the facts of an own error class -/
structure ErrX (K : PySem.W.Frag) (mg : Str → Option Value) (x : Str) (ps : List Str) (C fI : Addr) : Prop where
  oex : OexC K C
  ini : PySem.W.findIn K (.ref C) "__init__" = some (some (.ref fI))
  inT : PySem.W.typeIn K (.ref fI) = some (.type "function")
  no : ∀ p ∈ ps, PySem.W.findIn K (.ref C) p = some none
  mg : mg x = some (.ref C)
theorem upB {H : Hp} {a b : Addr} {o u : HO} (h : b ≠ a) (e : H b = some o) : upd H a u b = some o := by rw [upd_ne h]; exact e
end Kw

set_option maxRecDepth 100000
set_option maxHeartbeats 4000000
namespace Kw
open PySem PySem.Spec PyProof.Rows L2
/-- an empty set, as it is laid -/
abbrev mtS (w : World) : Obj := { cls := .type "set", dict := none, data := .set #[] 0 (.fresh 0 0 (!w.params.followText "set-order")) }
section
variable {P : Program} {w : World} {A : Around} {E : Value → Shared → Prop}
set_option maxHeartbeats 8000000 in
/-- set(l), l a list of whole numbers, doubles among them -/
theorem set_of_list {s : Shared} {l : Addr} {items : Array Value} (ns : List Int) {Q : Value → Shared → Prop} (hh : A.handled = none) (hl : s.heap.IsList l items) (hit : IntsAre items.toList ns) (room : ns.length + 1 < scanBound)
    (fin : ∀ (G : Heap) (tk c : Nat), SetR w G s.heap.objs.size (fun j => decide (j ∈ ns)) c → c ≤ ns.length → (∀ b o, s.heap.get? b = some o → G.get? b = some o) → Q (.ref s.heap.objs.size) { s with heap := G, toks := tk }) :
    wpAny (model P w) A (call (.type "set") [.ref l]) Q E s := by
  have size_eq : items.size = ns.length := Array.length_toList.symm.trans (IntsAre.length hit)
  have each : ∀ (i : Nat) (v : Value), items[i]? = some v → ∃ k t, ns[i]? = some k ∧ v = .int k t := by
    intro i v hv
    have lt : i < ns.length := by
      rw [← size_eq]
      exact (Array.getElem?_eq_some_iff.mp hv).1
    obtain ⟨t, e⟩ := IntsAre.int_at hit i v (by rw [Array.getElem?_toList]; exact hv)
    rw [List.getD_eq_getElem?_getD, List.getElem?_eq_getElem lt] at e
    exact ⟨ns[i], t, List.getElem?_eq_getElem lt, e⟩
  have made := F.called_set.made
  have sub := F.called_set.sub
  obtain ⟨_, _, mro⟩ := F.called_set.mro
  refine wpAny_call (codeAny_of_tree (wpAny_pure ⟨Code.quiet_builtin _ (by decide +kernel), codeAny_builtin F.entry_type_call ?_⟩))
  rw [Around.under_plain (weight_type_call_type "set" [.ref l] []) rfl]
  have nt := F.called_set.notType
  have cc := F.called_set.canCreate
  have tc := F.typeCall_set_1 (.ref l)
  repeat (any_goals (first | assumption | wp_step))
  refine codeAny_mono (code_set_led1 (.ref l) (E := E) (Q₁ := fun obj t => obj = .ref s.heap.objs.size ∧ t = { s with heap := s.heap.push (mtS w) }) ⟨rfl, rfl⟩) fun r t hr => ?_
  match r, hr with
  | .error e, hr => exact hr
  | .ok .next, hr => exact hr.elim
  | .ok .brk, hr => exact hr.elim
  | .ok .cont, hr => exact hr.elim
  | .ok (.ret obj), hr =>
    obtain ⟨rfl, rfl⟩ := hr
    have at0 : (s.heap.push (mtS w)).get? s.heap.objs.size = some (mtS w) := Heap.get?_push_size _ rfl
    have ty0 : Shared.TypeIs { s with heap := s.heap.push (mtS w) } (.ref s.heap.objs.size) "set" := ⟨_, at0, rfl⟩
    have look := F.called_set.init.lookup
    have bind := F.called_set.init.bind (.ref s.heap.objs.size)
    repeat (any_goals (first | assumption | wp_step))
    refine codeAny_mono (codeAny_call_builtin (R := wants (fun r t => r = .none ∧ ∃ G tk c, t = { s with heap := G, toks := tk } ∧ SetR w G s.heap.objs.size (fun j => decide (j ∈ ns)) c ∧ c ≤ ns.length ∧ ∀ b o, s.heap.get? b = some o → G.get? b = some o) E)
      F.called_set.init.plain F.entry_set_init (check_set_init_1 ty0 ?_)) fun r t hr => ?_
    · have lt0 : l < s.heap.objs.size := by
        obtain ⟨_, e, _⟩ := hl
        exact Heap.lt_size e
      have hl1 : (s.heap.push (mtS w)).IsList l items := hl.push _
      obtain ⟨⟨ocls, odict, odata, oslots⟩, hol, hcl, nl, hdl⟩ := hl
      simp only at hcl hdl
      subst hcl hdl
      have hol1 := Heap.get?_push_of_some (mtS w) hol
      have sub1 := F.sub_list_set
      have sub2 := F.sub_list_frozenset
      have nd : (Value.type "list" == Value.type "dict") = false := by decide
      unfold Builtin.«set.__init__» noKeywords Builtin.Frozenset.updateFrom
      generalize hPI : pyIter = PI
      wp_walk
      subst hPI
      refine wpAny_pyIter_list hl1 (wpAny_bind (wpAny_runValue ?_))
      have h3 : A.in1.in1.in1.handled = none := by simp [hh]
      have sz1 : (s.heap.push (mtS w)).objs.size = s.heap.objs.size + 1 := Heap.size_push ..
      have nIt : l ≠ (s.heap.push (mtS w)).objs.size := by
        rw [sz1]
        exact Nat.ne_of_lt (Nat.lt_succ_of_lt lt0)
      have nSet : s.heap.objs.size ∉ [(s.heap.push (mtS w)).objs.size, l] := by
        rw [sz1]
        intro z
        rcases List.mem_cons.mp z with z | z
        · exact absurd z (Nat.ne_of_lt (Nat.lt_succ_self _))
        · exact absurd (List.mem_singleton.mp z) (Nat.ne_of_gt lt0)
      have W := (Walks.list (prog := P) (w := w) h3 (s.heap.push (mtS w)).objs.size l nIt items).toS
      refine set_update_ints W s.heap.objs.size nSet ns size_eq room each (items.size - 0) 0 _ (by omega) (Nat.zero_le _) ⟨⟨_, Heap.get?_push_size _ rfl, rfl, rfl⟩, hl1.push _⟩ ⟨0, Nat.le_refl 0, setR_new_at (Heap.get?_push_of_some _ at0)⟩ ?_
      rintro ⟨G, g, d, tk, os⟩ c moved hc hS
      obtain rfl : g = s.gens := moved.gens
      obtain rfl : d = s.drawn := moved.drawn
      obtain rfl : os = s.os := moved.os
      refine wpAny_pure (wpAny_pure ⟨rfl, G, tk, c, rfl, hS, size_eq ▸ hc, fun b o e => ?_⟩)
      have ltb : b < s.heap.objs.size := Heap.lt_size e
      refine moved.heap b o (fun z => ?_) (Heap.get?_push_of_some _ (Heap.get?_push_of_some _ e))
      rcases List.mem_cons.mp z with z | z
      · exact absurd z (Nat.ne_of_lt ltb)
      · have z' := List.mem_singleton.mp z
        rw [sz1] at z'
        exact absurd z' (Nat.ne_of_lt (Nat.lt_succ_of_lt ltb))
    · match r, hr with
      | .error e, hr => exact hr
      | .ok .next, hr => exact hr.elim
      | .ok .brk, hr => exact hr.elim
      | .ok .cont, hr => exact hr.elim
      | .ok (.ret r), hr =>
        obtain ⟨rfl, G, tk, c, rfl, hS, hc, kept⟩ := hr
        repeat (any_goals (first | assumption | wp_step))
        exact fin _ _ _ hS hc kept
end
/-- set(xs), xs a list or a tuple of whole numbers -/
def rSetSI (K : PySem.W.Frag) (w : World) : List V → Hp → VK → Prop := fun vs H Q => ∃ (l : Addr) (ns : List Int), vs = [.ref l] ∧ (SqL K H l (ns.map V.int) ∨ SqT K H l (ns.map V.int)) ∧ ns.length ≤ 4000 ∧
  ∀ (p : Addr) (c : Nat), H p = none → c ≤ ns.length → Q (.ref p) (upd H p (SetO w p (fun j => decide (j ∈ ns)) c))
theorem ints_of_vals : ∀ {ns : List Int} {us : List Value}, Vals (ns.map V.int) us → IntsAre us ns
  | [], _, .nil => .nil
  | n :: r, _, .cons h t => by
    obtain ⟨k, e⟩ := h
    rw [e]
    exact .cons n k (ints_of_vals t)
theorem call_setSI {X : Cx} (hc : X.calm = true) : CallR X (.type "set") (rSetSI X.K X.w) := by
  intro pins s σ H vs us Q I r h
  obtain ⟨l, ns, rfl, hq, h4, q⟩ := h
  rw [Vals.ref1 r]
  have room : ns.length + 1 < scanBound := by
    unfold scanBound
    omega
  have fin : ∀ (G : Heap) (tk c : Nat), SetR X.w G s.heap.objs.size (fun j => decide (j ∈ ns)) c → c ≤ ns.length → (∀ b o, s.heap.get? b = some o → G.get? b = some o) → EP X pins σ Q (.ref s.heap.objs.size) { s with heap := G, toks := tk } := fun G tk c hS hcl k =>
    ⟨.ref s.heap.objs.size, _, I.laid (t' := tk) k (Nat.le_refl _) (setO_new hS), rfl, q _ c (I.hok.fresh (Nat.le_refl _)) hcl⟩
  rcases hq with hq | hq
  · obtain ⟨its, rv, pl, hz⟩ := I.list hq
    exact set_of_list ns (I.ok.hd hc) pl.isList (by simpa using ints_of_vals rv) room fin
  · obtain ⟨its, rv, pl, hz⟩ := I.tuple hq
    exact call_set_tupI ns (I.ok.hd hc) pl (by simpa using ints_of_vals rv) room fin
end Kw

set_option maxRecDepth 100000
set_option maxHeartbeats 4000000
namespace Kw
open PySem PySem.Spec PyProof.Rows L2
/-- len(set(xs)), xs a list of tuples of ints: as many as unlike ones -/
def tLenSetT (K : PySem.W.Frag) (ta : TE) : TE := fun σ H Q => ta σ H fun x H1 => ∃ (l : Addr) (ks : List (Addr × List Int)), x = V.ref l ∧ SqL K H1 l (ks.map fun p => V.ref p.1) ∧ (∀ p ∈ ks, SqT K H1 p.1 (p.2.map V.int)) ∧ ks.length < 64 ∧
  ∀ n : Nat, (n = ks.length ↔ (ks.map (·.2)).Nodup) → Q (.int n) H1
theorem nodup_sub_len {α : Type} [DecidableEq α] : ∀ {ks ns : List α}, ks.Nodup → (∀ k ∈ ks, k ∈ ns) → ks.length ≤ ns.length
  | [], _, _, _ => Nat.zero_le _
  | k :: r, ns, hn, hs => by
    have hk : k ∈ ns := hs k List.mem_cons_self
    obtain ⟨h1, h2⟩ := List.nodup_cons.mp hn
    have ih := nodup_sub_len (ks := r) (ns := ns.erase k) h2 fun y hy => by
      have ne : y ≠ k := fun e => h1 (by rw [← e]; exact hy)
      exact (List.mem_erase_of_ne ne).mpr (hs y (List.mem_cons_of_mem _ hy))
    rw [List.length_erase_of_mem hk] at ih
    have := List.length_pos_of_mem hk
    show r.length + 1 ≤ ns.length
    omega
theorem nodup_of_sub_len {α : Type} [DecidableEq α] : ∀ {ns ks : List α}, ks.Nodup → (∀ k ∈ ks, k ∈ ns) → ns.length ≤ ks.length → ns.Nodup
  | [], _, _, _, _ => List.nodup_nil
  | n :: r, ks, hn, hs, hl => by
    by_cases hr : n ∈ r
    · have z := nodup_sub_len (ks := ks) (ns := r) hn fun k hk => by
        rcases List.mem_cons.mp (hs k hk) with e | e
        · rw [e]; exact hr
        · exact e
      have : r.length + 1 ≤ ks.length := hl
      omega
    · refine List.nodup_cons.mpr ⟨hr, nodup_of_sub_len (ks := ks.erase n) (hn.erase n) (fun k hk => ?_) ?_⟩
      · have h1 := (hn.mem_erase_iff).mp hk
        rcases List.mem_cons.mp (hs k h1.2) with e | e
        · exact absurd e h1.1
        · exact e
      · have h2 : r.length + 1 ≤ ks.length := hl
        by_cases hm : n ∈ ks
        · rw [List.length_erase_of_mem hm]
          omega
        · rw [List.erase_of_not_mem hm]
          omega
theorem pe_lenSetT {X : Cx} {a : Expr} {ta : TE} {p p2 q pos : Pos} (hu : X.A.units + 64 < cLine) (hg : Gl X "len") (hm : X.mg "len" = none) (hg2 : Gl X "set") (hm2 : X.mg "set" = none) (ha : PE X a ta) (hc : X.calm = true := by rfl)
    (na : starEach [a] X.env = (false, eval a X.env) :: starEach [] X.env := by rfl) : PE X (.Call (.Name "len" p) [.Call (.Name "set" p2) [a] [] q] [] pos) (tLenSetT X.K ta) := by
  refine ⟨fun pins s σ H Q I h => Call_ (ld_blt I hg hm PySem.boot_len ?_)⟩
  refine callWith_builtin1 (args_cons (Call_ (ld_blt I hg2 hm2 PyProof.Rows.boot_set ?_)) rfl) rfl rfl
  refine callWith_type1 (args_cons (thn (ha.run pins s σ H _ I h) fun v s1 ⟨x, H1, I1, r1, q1⟩ => args_nil ?_) na) na rfl
  obtain ⟨l, ks, ex, hq, hk, hf, q2⟩ := q1
  subst ex
  obtain rfl : v = Value.ref l := r1
  obtain ⟨its, rv, pl, hz⟩ := I1.list hq
  refine call_set_tups (P := X.prog) (w := X.w) ks (I1.ok.hd hc) pl.isList (by simpa using refs_of_vals rv) (fun p hp => I1.isT (hk p hp)) hf (by omega) fun h' tk L es ep t R g k => args_nil ?_
  obtain ⟨o, ho, hex, hd⟩ := R.ob
  have sz := SetTR.size (s := { s1 with heap := h', toks := tk }) R
  have I2 : Inv X pins σ H1 { s1 with heap := h', toks := tk } := I1.kept fun b o e => k b o e
  have key : L.length = ks.length ↔ (ks.map (·.2)).Nodup := by
    have sub : ∀ x ∈ L.map (·.2), x ∈ ks.map (·.2) := fun x hx => by
      obtain ⟨p, hp, rfl⟩ := List.mem_map.mp hx
      exact List.mem_map_of_mem (List.mem_of_mem_take (g.sub p hp))
    have all : ∀ x ∈ ks.map (·.2), x ∈ L.map (·.2) := fun x hx => by
      obtain ⟨p, hp, rfl⟩ := List.mem_map.mp hx
      exact g.all p (by rw [List.take_length]; exact hp)
    have l1 := nodup_sub_len R.nd sub
    rw [List.length_map, List.length_map] at l1
    constructor
    · intro e
      refine nodup_of_sub_len R.nd sub ?_
      rw [List.length_map, List.length_map, e]
      exact Nat.le_refl _
    · intro hn
      have l2 := nodup_sub_len hn all
      rw [List.length_map, List.length_map] at l2
      omega
  exact call_len_set ho hex hd (SetTR.fits (s := { s1 with heap := h', toks := tk }) R) (by have := R.few; rw [sz]; omega) ⟨.int es.size, H1, I2.tok _, ⟨_, rfl⟩, q2 es.size (by rw [sz]; exact key)⟩
end Kw

set_option maxRecDepth 100000
set_option maxHeartbeats 4000000
namespace Kw
open PySem PySem.Spec PyProof.Rows L2
theorem PE.weak {X : Cx} {e : Expr} {t t' : TE} (h : PE X e t) (w : ∀ σ H Q, t' σ H Q → t σ H Q) : PE X e t' := ⟨fun pins s σ H Q I k => h.run pins s σ H Q I (w σ H Q k)⟩
theorem PA.weak {X : Cx} {e : List Expr} {t t' : TA} (h : PA X e t) (w : ∀ σ H Q, t' σ H Q → t σ H Q) : PA X e t' := ⟨fun pos pins s σ H Q I k => h.run pos pins s σ H Q I (w σ H Q k)⟩
theorem same_nw {H : Hp} {p : Addr} {o : HO} (hp : H p = none) : Same H (upd H p o) := fun b u e => by
  rw [upd_ne (ne_of_none e hp)]
  exact e
/-- lists of ints -/
def ListsI (H : Hp) : List V → List (List Int) → Prop := Paired fun v l => ∃ t, v = .ref t ∧ H t = some (.lst (l.map V.int))
theorem ListsI.same {H H' : Hp} (s : Same H H') : ∀ {vs : List V} {ls : List (List Int)}, ListsI H vs ls → ListsI H' vs ls
  | [], [], _ => .nil
  | _ :: _, _ :: _, .cons ⟨t, e, h⟩ r => .cons ⟨t, e, s _ _ h⟩ (ListsI.same s r)
theorem ListsI.get {H : Hp} : ∀ {vs : List V} {ls : List (List Int)} {i : Nat} {l : List Int}, ListsI H vs ls → ls[i]? = some l → ∃ t, vs[i]? = some (.ref t) ∧ H t = some (.lst (l.map V.int))
  | [], [], _, _, _, h => by simp at h
  | _ :: _, _ :: _, 0, _, .cons ⟨t, e1, h⟩ _, e => by
    obtain rfl := Option.some.inj e
    exact ⟨t, by rw [e1]; rfl, h⟩
  | _ :: _, _ :: _, i + 1, _, .cons _ r, e => ListsI.get (i := i) r e
def TabsI (H : Hp) : List V → List (List (List Int)) → Prop := Paired fun v lss => ∃ t us, v = .ref t ∧ H t = some (.lst us) ∧ ListsI H us lss
theorem TabsI.get {H : Hp} : ∀ {vs : List V} {ls : List (List (List Int))} {i : Nat} {l : List (List Int)}, TabsI H vs ls → ls[i]? = some l → ∃ t us, vs[i]? = some (.ref t) ∧ H t = some (.lst us) ∧ ListsI H us l
  | [], [], _, _, _, h => by simp at h
  | _ :: _, _ :: _, 0, _, .cons ⟨t, us, e1, h⟩ _, e => by
    obtain rfl := Option.some.inj e
    exact ⟨t, us, by rw [e1]; rfl, h⟩
  | _ :: _, _ :: _, i + 1, _, .cons _ r, e => TabsI.get (i := i) r e
/-- a written list of ints -/
def tIntL (ns : List Int) : TE := fun σ H Q => ∀ p, H p = none → Q (.ref p) (upd H p (.lst (ns.map V.int)))
section
variable {X : Cx} {p p1 p2 : Pos}
theorem pe_il0 : PE X (.List [] p) (tIntL []) := PE.weak (pe_lst pa_nil) fun σ H Q k => ⟨by decide, k⟩
theorem pe_il1 {a : Int} {x1} {y1 : Pos} : PE X (.List [.Constant (.int a) x1 y1] p) (tIntL [a]) := PE.weak (pe_lst (pa_cons pe_int pa_nil)) fun σ H Q k => ⟨by show 1 ≤ sizeLine; decide, k⟩
theorem pe_il2 {a b : Int} {x1 x2} {y1 y2 : Pos} : PE X (.List [.Constant (.int a) x1 y1, .Constant (.int b) x2 y2] p) (tIntL [a, b]) := PE.weak (pe_lst (pa_cons pe_int (pa_cons pe_int pa_nil))) fun σ H Q k => ⟨by show 2 ≤ sizeLine; decide, k⟩
def tLits (lss : List (List Int)) : TA := fun σ H Q => ∀ vs H', Same H H' → ListsI H' vs lss → Q vs H'
theorem pa_lits_nil : PA X [] (tLits []) := PA.weak pa_nil fun σ H Q k => k [] H (Same.refl H) .nil
theorem pa_lits {e : Expr} {es : List Expr} {ns : List Int} {lss : List (List Int)} (he : PE X e (tIntL ns)) (hr : PA X es (tLits lss)) (hs : starEach (e :: es) X.env = (false, eval e X.env) :: starEach es X.env := by rfl) : PA X (e :: es) (tLits (ns :: lss)) :=
  PA.weak (pa_cons he hr hs) fun σ H Q k q hq vs H' s h => k _ H' (Same.trans (same_nw hq) s) (.cons ⟨q, rfl, s _ _ upd_same⟩ h)
def tLit2 (lss : List (List Int)) : TE := fun σ H Q => ∀ q us H', Same H H' → H' q = some (.lst us) → ListsI H' us lss → Q (.ref q) H'
theorem pe_lit2 {es : List Expr} {lss : List (List Int)} (h : PA X es (tLits lss)) (hl : lss.length ≤ sizeLine := by decide) : PE X (.List es p) (tLit2 lss) :=
  PE.weak (pe_lst h) fun σ H Q k vs H' s hv => ⟨by rw [Paired.length hv]; exact hl, fun q hq => k q vs _ (Same.trans s (same_nw hq)) upd_same (hv.same (same_nw hq))⟩
def tLits2 (lsss : List (List (List Int))) : TA := fun σ H Q => ∀ vs H', Same H H' → TabsI H' vs lsss → Q vs H'
theorem pa_lits2_nil : PA X [] (tLits2 []) := PA.weak pa_nil fun σ H Q k => k [] H (Same.refl H) .nil
theorem pa_lits2 {e : Expr} {es : List Expr} {ns : List (List Int)} {lss : List (List (List Int))} (he : PE X e (tLit2 ns)) (hr : PA X es (tLits2 lss)) (hs : starEach (e :: es) X.env = (false, eval e X.env) :: starEach es X.env := by rfl) : PA X (e :: es) (tLits2 (ns :: lss)) :=
  PA.weak (pa_cons he hr hs) fun σ H Q k q us H1 s1 h1 h2 vs H' s h => k _ H' (Same.trans s1 s) (.cons ⟨q, us, rfl, s _ _ h1, h2.same s⟩ h)
/-- a written list of lists of lists of ints -/
def tLit3 (lsss : List (List (List Int))) : TE := fun σ H Q => ∀ q us H', Same H H' → H' q = some (.lst us) → TabsI H' us lsss → Q (.ref q) H'
theorem TabsI.same {H H' : Hp} (s : Same H H') : ∀ {vs : List V} {ls : List (List (List Int))}, TabsI H vs ls → TabsI H' vs ls
  | [], [], _ => .nil
  | _ :: _, _ :: _, .cons ⟨t, us, e, h, h2⟩ r => .cons ⟨t, us, e, s _ _ h, h2.same s⟩ (TabsI.same s r)
theorem pe_lit3 {es : List Expr} {lsss : List (List (List Int))} (h : PA X es (tLits2 lsss)) (hl : lsss.length ≤ sizeLine := by decide) : PE X (.List es p) (tLit3 lsss) :=
  PE.weak (pe_lst h) fun σ H Q k vs H' s hv => ⟨by rw [Paired.length hv]; exact hl, fun q hq => k q vs _ (Same.trans s (same_nw hq)) upd_same (hv.same (same_nw hq))⟩
end
end Kw

set_option maxRecDepth 100000
set_option maxHeartbeats 4000000
namespace Kw
open PySem PySem.Spec PyProof.Rows L2
section
variable {X : Cx} {CX : CXT} {k : Nat} {fI C : Addr} {fd : FuncData} {ps : List Str} {sp : Sp} {x : Str} {p pos : Pos} {e : Expr} {es : List Expr} {ta : TA}
/-- C(e, ..), an own class whose __init__ may raise, where σ tells what the raising asks -/
theorem made_at {W : XK} {pins : List (Addr × Obj)} {σ : L2.St} {H : Hp} {s : Shared} {Q : VK} {us : List Value} {vs : List V} (M : Mk X.K C fI) (G : FnOk X.prog X.w X.K X.mg X.base CX k fI fd ps sp)
    (room : Room (k + 1) X.A) (bd : Binds X.K fd ps []) (out : PassesAt CX X σ W) (I : Inv X pins σ H s) (rel : Vals vs us)
    (q : ∀ o dx, H o = none → H dx = none → dx ≠ o → sp (.ref o :: vs) (upd (upd H dx (.own o)) o (.ins C dx [])) (fun v H2 => v = .non ∧ Q (.ref o) H2) W) :
    wpAny (model X.prog X.w) X.A (call (.ref C) us) (EP X pins σ Q) X.xe s := by
  generalize en : s.heap.objs.size = n at *
  have J := Inv.made (C := C) I
  rw [en] at J
  have f1 : H (n + 1) = none := I.hok.fresh (by rw [en]; exact Nat.le_succ _)
  have f2 : H n = none := I.hok.fresh (by rw [en]; exact Nat.le_refl _)
  have go := q (n + 1) n f1 f2 (Nat.ne_of_lt (Nat.lt_succ_self _))
  have rel2 : Vals (V.ref (n + 1) :: vs) (Value.ref (n + 1) :: us) := .cons rfl rel
  have len : (Value.ref (n + 1) :: us ++ []).length = ps.length := by
    rw [List.append_nil, ← rel2.length]
    exact G.len _ _ _ _ go
  have b2 := bd _ (Value.ref (n + 1) :: us) J.kIn len
  rw [List.append_nil] at b2
  have ran := G.run _ X.stack _ _ ⟨Value.ref (n + 1) :: us, []⟩ (Value.ref (n + 1) :: us) _ _ W (room.make C us []) (J.env0.make C us []) b2 rel2 go
  refine wpAny_call (make_map (f := fI) I.kIn M.makes M.init (beq_iff_eq.mp M.fn) ?_)
  rw [en]
  refine codeAny_mono ran fun r s' z => ?_
  cases r with
  | error er => exact out pins _ _ er s' J z
  | ok fl =>
    cases fl with
    | ret u =>
      obtain ⟨v, H3, I3, rv, ev, q3⟩ := J.after z
      subst ev
      exact ⟨rv, .ref (n + 1), H3, I3, rfl, q3⟩
    | next => exact False.elim z
    | brk => exact False.elim z
    | cont => exact False.elim z
def tMadeS (C : Addr) (sp : Sp) (W : L2.St → XK) (ta : TA) : TE := fun σ H Q => ta σ H fun vs H1 => ∀ o dx, H1 o = none → H1 dx = none → dx ≠ o → sp (.ref o :: vs) (upd (upd H1 dx (.own o)) o (.ins C dx [])) (fun v H2 => v = .non ∧ Q (.ref o) H2) (W σ)
theorem pe_madeS {W : L2.St → XK} (M : Mk X.K C fI) (G : FnOk X.prog X.w X.K X.mg X.base CX k fI fd ps sp) (room : Room (k + 1) X.A) (hg : Gl X x) (hm : X.mg x = some (.ref C)) (bd : Binds X.K fd ps []) (out : ∀ σ, PassesAt CX X σ (W σ))
    (ha : PA X (e :: es) ta) (hdb : (x == ("__debug__" : Str)) = false := by decide) (he : starEach (e :: es) X.env = (false, eval e X.env) :: starEach es X.env := by rfl) (hpl : (backTo pos (starEach es X.env)).any (·.1) = false := by rfl) :
    PE X (.Call (.Name x p) (e :: es) [] pos) (tMadeS C sp W ta) := by
  refine ⟨fun pins s σ H Q I h => wpAny_Call_Name_kw (ld_glob I hg hm ?_ hdb)⟩
  refine PySem.W.callWith_K (h₀ := X.base) I.ok.mod.kin M.kp (thn (ha.run pos pins s σ H _ I h) fun us s1 ⟨vs, H1, I1, r1, q1⟩ => ?_) he hpl
  exact ⟨I1.kIn, made_at M G room bd (out σ) I1 r1 q1⟩
variable {o : Expr} {to : TE} {m : Str} {apos : Pos}
/-- o.m(e, ..), a method that may raise, where σ tells what the raising asks -/
def tMethU (C : Addr) (m : Str) (sp : Sp) (W : L2.St → XK) (to : TE) (ta : TA) : TE := fun σ H Q => to σ H fun x H1 => ∃ a dx fs, x = .ref a ∧ H1 a = some (.ins C dx fs) ∧ fs.lookup m = none ∧ ta σ H1 fun vs H2 => sp (.ref a :: vs) H2 Q (W σ)
theorem pe_methU {W : L2.St → XK} {pl : Sem Bool} (ho : PE X o to) (cl : Cls X.K C) (mt : Meth X.K C m fI) (G : FnOk X.prog X.w X.K X.mg X.base CX k fI fd ps sp) (room : Room k X.A) (bd : Binds X.K fd ps []) (out : ∀ σ, PassesAt CX X σ (W σ)) (args : PA X (e :: es) ta)
    (h1 : starEach (e :: es) X.env = (false, eval e X.env) :: starEach es X.env := by rfl) (h2 : (backTo pos (starEach es X.env)).any (·.1) = false := by rfl)
    (way : eval (.Call (.Attribute o m apos) (e :: es) [] pos) X.env = (do let ov ← eval o X.env; standAt apos.atName; let (f, first) ← holding [ov] (getMethod ov m pl); callWith pos f first (backTo pos (starEach (e :: es) X.env)) (backToKw pos (keywordEach [] X.env))) := by rfl) :
    PE X (.Call (.Attribute o m apos) (e :: es) [] pos) (tMethU C m sp W to ta) := by
  refine ⟨fun pins s σ H Q I h => PySem.W.methodCall_KW (pl := pl) (thn (ho.run pins s σ H _ I h) fun u s1 z => ?_) way⟩
  obtain ⟨x, H1, I1, rx, a, dx, fs, rfl, ea, l, q⟩ := z
  obtain rfl : u = Value.ref a := rx
  refine getmeth_ok I1 ea cl mt l (PySem.W.callWith_K (first := [.ref a]) (h₀ := X.base) I.ok.mod.kin mt.kp (thn (args.run pos pins s1 σ H1 _ I1 q) fun us s2 z => ?_) h1 h2)
  obtain ⟨vs, H2, I2, r, q2⟩ := z
  exact ⟨I2.kIn, run_fnS (us := .ref a :: us) (vs := .ref a :: vs) G room bd (out σ) I2 (.cons rfl r) q2⟩
end
end Kw

set_option maxRecDepth 100000
set_option maxHeartbeats 4000000
namespace K16
open PySem PySem.Spec PyProof.Rows L2 Kw
def top (i : Nat) : Stmt := PySem.Challenge.pw_headamid_k16_whole_fewest_hues_gone_thro.main.body.getD i (.Pass ⟨0, 0, 0, 0⟩)
abbrev FnP (K : PySem.W.Frag) (x : Str) (i : Nat) (f : Addr) (fd : FuncData) : Prop := FunD K x x (defArgs (top i)) (defBody (top i)) (defScope (top i)) [] [] f fd
abbrev FnDf (K : PySem.W.Frag) (x : Str) (i : Nat) (dvs : List V) (f : Addr) (fd : FuncData) : Prop := FunD K x x (defArgs (top i)) (defBody (top i)) (defScope (top i)) dvs [] f fd
theorem same_new {H : Hp} {p : Addr} {o : HO} (hp : H p = none) : Same H (upd H p o) := fun b u e => by
  rw [upd_ne (ne_of_none e hp)]
  exact e
/-- a plain thing's type stays -/
inductive Ty0 (H : Hp) : V → String → Prop where
  | non : Ty0 H .non "NoneType"
  | bl (x : Bool) : Ty0 H (.bl x) "bool"
  | int (i : Int) : Ty0 H (.int i) "int"
  | str (x : Str) : Ty0 H (.str x) "str"
  | lst {a : Addr} {xs : List V} (e : H a = some (.lst xs)) : Ty0 H (.ref a) "list"
  | tup {a : Addr} {xs : List V} (e : H a = some (.tup xs)) : Ty0 H (.ref a) "tuple"
  | dK {a : Addr} {kvs : List (Key × V)} (e : H a = some (.dK kvs)) : Ty0 H (.ref a) "dict"
theorem Ty0.same {H H' : Hp} {x : V} {t : String} (h : Ty0 H x t) (s : Same H H') : Ty0 H' x t := by
  cases h with
  | non => exact .non
  | bl x => exact .bl x
  | int i => exact .int i
  | str x => exact .str x
  | lst e => exact .lst (s _ _ e)
  | tup e => exact .tup (s _ _ e)
  | dK e => exact .dK (s _ _ e)
theorem Ty0.x {K : PySem.W.Frag} {H : Hp} {x : V} {t : String} (h : Ty0 H x t) : TyX K H x (.type t) := by
  cases h with
  | non => exact .base .non
  | bl x => exact .base (.bl x)
  | int i => exact .base (.int i)
  | str x => exact .base (.str x)
  | lst e => exact .base (.lst e)
  | tup e => exact .base (.tup e)
  | dK e => exact .base (.dK e)
def seqT (t : String) : Bool := t == "list" || t == "tuple"
theorem Ty0.seq {K : PySem.W.Frag} {H : Hp} {x : V} {t : String} (h : Ty0 H x t) : PySem.W.kitAny K (.type t) [.type "list", .type "tuple"] = some (seqT t) := by
  have two : kitB t "list" = some (t == "list") → kitB t "tuple" = some (t == "tuple") → PySem.W.kitAny K (.type t) [.type "list", .type "tuple"] = some (seqT t) := fun hb hc => by
    unfold seqT
    refine kitAny_cons (kit_ty hb) (fun eb => ?_) fun eb => by rw [eb]; rfl
    rw [eb, Bool.false_or]
    refine kitAny_cons (kit_ty hc) (fun ec => ?_) fun ec => ec
    rw [ec]
    exact kitAny_nil
  cases h <;> exact two (by decide +kernel) (by decide +kernel)
theorem Ty0.isBool {K : PySem.W.Frag} {H : Hp} {x : V} {t : String} (h : Ty0 H x t) : PySem.W.kitOne K (.type t) (.type "bool") = some (t == "bool") := by
  cases h <;> exact kit_ty (by decide +kernel)
theorem Ty0.isInt {K : PySem.W.Frag} {H : Hp} {x : V} {t : String} (h : Ty0 H x t) : PySem.W.kitOne K (.type t) (.type "int") = some (t == "bool" || t == "int") := by
  cases h <;> exact kit_ty (by decide +kernel)
structure Fr (mg : Str → Option Value) : Prop where
  isinstance : mg "isinstance" = none
  list : mg "list" = none
  tuple : mg "tuple" = none
  bool : mg "bool" = none
  int : mg "int" = none
  len : mg "len" = none
  set : mg "set" = none
  range : mg "range" = none
  sorted : mg "sorted" = none
  enumerate : mg "enumerate" = none
section
variable {P : Program} {w : World} {K : PySem.W.Frag} {mg : Str → Option Value} {base : Heap} {f : Addr} {fd : FuncData}
/-! ### is_sequence -/
def spIsSeq : Sp := fun vs H Q _ => ∃ (x : V) (t : String), vs = [x] ∧ Ty0 H x t ∧ ∀ H', Same H H' → Q (.bl (seqT t)) H'
theorem sc_isSeq : FnScope ["thing"] ["thing"] (defScope (top 11)) := ⟨rfl, rfl, rfl, by decide +kernel, rfl, by decide +kernel, by decide +kernel⟩
theorem ok_isSeq (F : FnP K "is_sequence" 11 f fd) (B : Fr mg) : FnOk P w K mg base CX0 1 f fd ["thing"] spIsSeq := by
  refine F.ok sc_isSeq (fun vs H Q E h => ?_) (fun cdv A outer s H vs Q E hr h => ?_)
  · obtain ⟨x, t, rfl, _⟩ := h
    rfl
  · obtain ⟨x, t, rfl, ty, k⟩ := h
    refine ⟨_, PSs.nox (pss_one (ps_ret (pe_callB call_isiT (by rfl) B.isinstance PyProof.Rows.boot_isinstance (pa_cons (pv 0) (pa_cons (pe_tup (pa_cons (pe_bltn (v := .ty "list") (by rfl) B.list PyProof.Rows.boot_list rfl) (pa_cons (pe_bltn (v := .ty "tuple") (by rfl) B.tuple PyProof.Rows.boot_tuple rfl) pa_nil))) pa_nil))))), ?_⟩
    exact ⟨_, rfl, (by show 2 ≤ sizeLine; decide), fun p np => ⟨x, p, _, _, _, _, rfl, upd_same, .cons (.ty "list") (.cons (.ty "tuple") .nil), (ty.same (same_new np)).x, ty.seq, k _ (same_new np)⟩⟩
/-! ### is_whole -/
def inLo : V → Int → Bool
  | .int l, i => decide (l ≤ i)
  | _, _ => true
def inHi : V → Int → Bool
  | .int h, i => decide (i ≤ h)
  | _, _ => true
def Lim (x : V) : Prop := x = .non ∨ ∃ i, x = .int i
def wholeB (lo hi : V) : V → Bool
  | .int i => inLo lo i && inHi hi i
  | _ => false
def spWhole : Sp := fun vs H Q _ => ∃ (x lo hi : V) (t : String), vs = [x, lo, hi] ∧ Ty0 H x t ∧ Lim lo ∧ Lim hi ∧ Q (.bl (wholeB lo hi x)) H
theorem sc_whole : FnScope ["thing", "low", "high"] ["thing", "low", "high"] (defScope (top 12)) := ⟨rfl, rfl, rfl, by decide +kernel, rfl, by decide +kernel, by decide +kernel⟩
theorem ok_whole (F : FnDf K "is_whole" 12 [.non, .non] f fd) (B : Fr mg) : FnOk P w K mg base CX0 1 f fd ["thing", "low", "high"] spWhole := by
  refine F.ok sc_whole (fun vs H Q E h => ?_) (fun cdv A outer s H vs Q E hr h => ?_)
  · obtain ⟨x, lo, hi, t, rfl, _⟩ := h
    rfl
  · obtain ⟨x, lo, hi, t, rfl, ty, hlo, hhi, k⟩ := h
    refine ⟨_, PSs.nox (pss_cons (ps_if (PW.pt (pw_or (pt_val (pe_callB call_isi (by rfl) B.isinstance PyProof.Rows.boot_isinstance (pa_cons (pv 0) (pa_cons (pe_bltn (v := .ty "bool") (by rfl) B.bool PyProof.Rows.boot_bool rfl) pa_nil))))
        (pw_or1 (pt_not (pt_val (pe_callB call_isi (by rfl) B.isinstance PyProof.Rows.boot_isinstance (pa_cons (pv 0) (pa_cons (pe_bltn (v := .ty "int") (by rfl) B.int PyProof.Rows.boot_int rfl) pa_nil)))))))) (pss_one (ps_ret pe_bl)) pss_nil)
      (pss_cons (ps_if (PW.pt (pw_and (pt_cmpR op_notN (pv 1) pe_non (nomark _)) (pw_and1 (pt_cmpR op_lt (pv 0) (pv 1) (nomark _))))) (pss_one (ps_ret pe_bl)) pss_nil)
      (pss_one (ps_ret (pe_or (pe_cmpR op_isN (pv 2) pe_non (nomark _)) (pe_one (pe_cmpR op_le (pv 0) (pv 2) (nomark _)))))))), ?_⟩
    have tyx := ty.x (K := K)
    have tyb := ty.isBool (K := K)
    have tyi := ty.isInt (K := K)
    refine ⟨_, rfl, x, _, _, _, _, rfl, .ty "bool", tyx, tyb, _, rfl, ?_⟩
    cases ty with
    | bl y => exact iteT k
    | int i =>
      refine iteF ⟨_, rfl, _, _, _, _, _, rfl, .ty "int", tyx, tyi, _, rfl, iteF ?_⟩
      have go2 : inLo lo i = true → (tRet (tOrV (tOp (fun x y H Q => y = V.non ∧ Q (V.bl (decide (x = V.non))) H) (tVar 2) (tC V.non)) (tOp (rI0 fun i j => V.bl (decide (i ≤ j))) (tVar 0) (tVar 2)))) { nx := fun _ H' => Q .non H', rt := Q } [some (.int i), some lo, some hi] H := fun e => by
        refine ⟨_, rfl, rfl, _, rfl, ?_⟩
        have k' : Q (.bl (inHi hi i)) H := by
          have z : wholeB lo hi (.int i) = inHi hi i := by
            show (inLo lo i && inHi hi i) = inHi hi i
            rw [e, Bool.true_and]
          rw [← z]
          exact k
        rcases hhi with rfl | ⟨h, rfl⟩
        · exact k'
        · exact ⟨_, rfl, _, rfl, _, _, rfl, rfl, k'⟩
      rcases hlo with rfl | ⟨l, rfl⟩
      · exact ⟨_, rfl, rfl, _, rfl, go2 rfl⟩
      · refine ⟨_, rfl, rfl, _, rfl, _, rfl, _, rfl, _, _, rfl, rfl, _, rfl, ?_⟩
        by_cases hl : i < l
        · rw [decide_eq_true hl]
          refine iteT ?_
          have z : wholeB (.int l) hi (.int i) = false := by
            show (decide (l ≤ i) && inHi hi i) = false
            rw [decide_eq_false (by omega), Bool.false_and]
          rw [z] at k
          exact k
        · rw [decide_eq_false hl]
          exact iteF (go2 (decide_eq_true (by omega)))
    | non => exact iteF ⟨_, rfl, _, _, _, _, _, rfl, .ty "int", tyx, tyi, _, rfl, iteT k⟩
    | str y => exact iteF ⟨_, rfl, _, _, _, _, _, rfl, .ty "int", tyx, tyi, _, rfl, iteT k⟩
    | lst e => exact iteF ⟨_, rfl, _, _, _, _, _, rfl, .ty "int", tyx, tyi, _, rfl, iteT k⟩
    | tup e => exact iteF ⟨_, rfl, _, _, _, _, _, rfl, .ty "int", tyx, tyi, _, rfl, iteT k⟩
    | dK e => exact iteF ⟨_, rfl, _, _, _, _, _, rfl, .ty "int", tyx, tyi, _, rfl, iteT k⟩
end
end K16

set_option maxRecDepth 100000
set_option maxHeartbeats 4000000
namespace K16
open PySem PySem.Spec PyProof.Rows L2 Kw
/-- a list or a tuple of these -/
def SeqAt (H : Hp) (a : Addr) (xs : List V) : Prop := H a = some (.lst xs) ∨ H a = some (.tup xs)
theorem SeqAt.same {H H' : Hp} {a : Addr} {xs : List V} (h : SeqAt H a xs) (s : Same H H') : SeqAt H' a xs := by
  rcases h with h | h
  · exact .inl (s _ _ h)
  · exact .inr (s _ _ h)
theorem SeqAt.sq {K : PySem.W.Frag} {H : Hp} {a : Addr} {xs : List V} (h : SeqAt H a xs) : SqL K H a xs ∨ SqT K H a xs := by
  rcases h with h | h
  · exact .inl (SqL.of h)
  · exact .inr (SqT.of h)
theorem SeqAt.ty {H : Hp} {a : Addr} {xs : List V} (h : SeqAt H a xs) : ∃ t, Ty0 H (.ref a) t ∧ seqT t = true := by
  rcases h with h | h
  · exact ⟨_, .lst h, rfl⟩
  · exact ⟨_, .tup h, rfl⟩
def intOf : V → Int
  | .int i => i
  | _ => 0
theorem ints_of {lo hi : V} : ∀ {xs : List V}, (∀ x ∈ xs, wholeB lo hi x = true) → xs = (xs.map intOf).map V.int
  | [], _ => rfl
  | x :: r, h => by
    have hx := h x List.mem_cons_self
    have e : x = V.int (intOf x) := by
      cases x with
      | int i => rfl
      | _ => cases hx
    rw [List.map_cons, List.map_cons, ← e, ← ints_of (xs := r) fun y hy => h y (List.mem_cons_of_mem _ hy)]
def unlikeB (m : Int) (xs : List V) : Bool := xs.all (fun x => wholeB (.int 0) (.int (m - 1)) x) && decide ((xs.map intOf).Nodup)
section
variable {P : Program} {w : World} {K : PySem.W.Frag} {mg : Str → Option Value} {base : Heap} {f fS fW : Addr} {fd fdS fdW : FuncData}
theorem binds_whole3 (F : FnDf K "is_whole" 12 [.non, .non] f fd) : L2.Binds K fd ["thing", "low", "high"] [] := by
  obtain ⟨ds, v, b⟩ := F.binds1 (ps := ["thing", "low", "high"]) 3 2 (by simp) rfl fun T kV doc pm an cdv ct us its hu hi => match us, hu, its, hi with | [_, _, _], _, [_, _], _ => ⟨_, rfl, rfl⟩
  cases v
  exact b
theorem binds_whole1 (F : FnDf K "is_whole" 12 [.non, .non] f fd) : ∃ ds, Vals [.non, .non] ds ∧ L2.Binds K fd ["thing", "low", "high"] ds :=
  F.binds1 (ps := ["thing", "low", "high"]) 1 0 (by simp) rfl fun T kV doc pm an cdv ct us its hu hi => match us, hu, its, hi with | [_], _, [_, _], _ => ⟨_, rfl, rfl⟩
/-- what is_unlike_row says of a thing, and how long it is where it is a row -/
def UnlikeIs (H : Hp) (x : V) (m : Int) (r : Bool) (n : Nat) : Prop :=
  (∃ t, Ty0 H x t ∧ seqT t = false ∧ r = false) ∨ (∃ a xs, x = .ref a ∧ SeqAt H a xs ∧ xs.length ≤ 1000 ∧ (∀ y ∈ xs, ∃ t, Ty0 H y t) ∧ r = unlikeB m xs ∧ n = xs.length)
theorem UnlikeIs.same {H H' : Hp} {x : V} {m : Int} {r : Bool} {n : Nat} (h : UnlikeIs H x m r n) (s : Same H H') : UnlikeIs H' x m r n := by
  rcases h with ⟨t, ty, e1, e2⟩ | ⟨a, xs, e, hA, hl, hty, e1, e2⟩
  · exact .inl ⟨t, ty.same s, e1, e2⟩
  · exact .inr ⟨a, xs, e, hA.same s, hl, fun y hy => ⟨_, (hty y hy).choose_spec.same s⟩, e1, e2⟩
def spUnlike : Sp := fun vs H Q _ => ∃ (x : V) (m : Int) (r : Bool) (n : Nat), vs = [x, .int m] ∧ UnlikeIs H x m r n ∧ ∀ H', Same H H' → Q (.bl r) H'
theorem sc_unlike : FnScope ["thing", "many", "item"] ["thing", "many"] (defScope (top 13)) := ⟨rfl, rfl, rfl, by decide +kernel, rfl, by decide +kernel, by decide +kernel⟩
theorem ok_unlike (F : FnP K "is_unlike_row" 13 f fd) (B : Fr mg) (FS : FnP K "is_sequence" 11 fS fdS) (mS : mg "is_sequence" = some (.ref fS)) (FW : FnDf K "is_whole" 12 [.non, .non] fW fdW) (mW : mg "is_whole" = some (.ref fW)) :
    FnOk P w K mg base CX0 2 f fd ["thing", "many"] spUnlike := by
  have GS : FnOk P w K mg base CX0 1 fS fdS ["thing"] spIsSeq := ok_isSeq FS B
  have GW : FnOk P w K mg base CX0 1 fW fdW ["thing", "low", "high"] spWhole := ok_whole FW B
  have bS : L2.Binds K fdS ["thing"] [] := FS.bindsN fun _ _ _ _ _ _ us hl => match us, hl with | [_], _ => rfl
  have bW := binds_whole3 FW
  refine F.ok sc_unlike (fun vs H Q E h => ?_) (fun cdv A outer s H vs Q E hr h => ?_)
  · obtain ⟨x, m, r, n, rfl, _⟩ := h
    rfl
  · obtain ⟨x, m, r, n, rfl, h, k⟩ := h
    rcases h with ⟨t, ty, hs, rfl⟩ | ⟨a, xs, rfl, hA, hl, hty, rfl, rfl⟩
    · refine ⟨_, PSs.nox (pss_cons (ps_if (pt_not (pt_val (pe_call GS (hr.mono (by decide)) (by rfl) mS FS.kp bS .nil pass0 (pa_cons (pv 0) pa_nil)))) (pss_one (ps_ret pe_bl)) pss_nil)
      (pss_cons (ps_for PassesOwn.never rfl (pi_list (pv 0)) (pg_name (i := 2) sc_unlike.nd rfl (Or.inl rfl)) (pss_one (ps_if (pt_not (pt_val (pe_call GW (hr.mono (by decide)) (by rfl) mW FW.kp bW .nil pass0 (pa_cons (pv 2) (pa_cons pe_int (pa_cons (pe_op op_sub (pv 1) pe_int) pa_nil)))))) (pss_one (ps_ret pe_bl)) pss_nil)))
      (pss_one (ps_ret (pe_cmpR op_eq (pe_lenSetA (by rfl) B.len (by rfl) B.set (pv 0)) (pe_callB call_len_seq (by rfl) B.len PySem.boot_len (pa_cons (pv 0) pa_nil)) (nomark _)))))), ?_⟩
      exact ⟨_, rfl, x, t, rfl, ty, fun H1 s1 => ⟨_, rfl, by rw [hs]; exact iteT (k H1 s1)⟩⟩
    · obtain ⟨t, ty, hseq⟩ := hA.ty
      -- a turn: an item that is no such number ends it
      have turn : ∀ (i : Nat) (y : V) (H' : Hp) (v : Option V), xs[i]? = some y → Same H H' → (∀ j z, j < i → xs[j]? = some z → wholeB (.int 0) (.int (m - 1)) z = true) → ∀ (N : L2.St → Hp → Prop),
          (∀ H'', Same H H'' → (∀ j z, j < i + 1 → xs[j]? = some z → wholeB (.int 0) (.int (m - 1)) z = true) → N [some (.ref a), some (.int m), some y] H'') → ∀ D : Ends, D.rt = Q → D.nx = N →
          (tIfS (tNot (tB (tCall spWhole [] E0 (tCons (tVar 2) (tCons (tC (.int 0)) (tCons (tOp (rI0 fun i j => .int (i - j)) (tVar 1) (tC (.int 1))) tNil)))))) (tRet (tC (.bl false))) tNext) D [some (.ref a), some (.int m), some y] H' := by
        intro i y H' v hi sH hall N hN D hrt hnx
        obtain ⟨ty', hy⟩ := hty y (List.mem_of_getElem? hi)
        refine ⟨_, rfl, _, rfl, _, _, rfl, rfl, y, _, _, ty', rfl, hy.same sH, .inr ⟨_, rfl⟩, .inr ⟨_, rfl⟩, _, rfl, ?_⟩
        cases hb : wholeB (.int 0) (.int (m - 1)) y with
        | false =>
          refine iteT ?_
          show D.rt (.bl false) H'
          rw [hrt]
          have e : unlikeB m xs = false := by
            unfold unlikeB
            have z : xs.all (fun x => wholeB (.int 0) (.int (m - 1)) x) = false := List.all_eq_false.mpr ⟨y, List.mem_of_getElem? hi, by rw [hb]; decide⟩
            rw [z, Bool.false_and]
          rw [← e]
          exact k H' sH
        | true =>
          refine iteF ?_
          show D.nx _ H'
          rw [hnx]
          refine hN H' sH fun j z hj hz => ?_
          by_cases e : j = i
          · rw [e, hi] at hz
            rw [← Option.some.inj hz]
            exact hb
          · exact hall j z (by omega) hz
      have done : ∀ (H' : Hp) (v : Option V), Same H H' → (∀ j z, j < xs.length → xs[j]? = some z → wholeB (.int 0) (.int (m - 1)) z = true) →
          (tRet (tOp rEq (tLenSetA K (tVar 0)) (tCB (fun xs H Q => ∃ p ys, xs = [.ref p] ∧ (SqL K H p ys ∨ SqT K H p ys) ∧ Q (.int ys.length) H) (tCons (tVar 0) tNil)))) { nx := fun _ H' => Q .non H', rt := Q } [some (.ref a), some (.int m), v] H' := by
        intro H' v sH hall
        have hall' : ∀ z ∈ xs, wholeB (.int 0) (.int (m - 1)) z = true := fun z hz => by
          obtain ⟨j, hj, e⟩ := List.mem_iff_getElem.mp hz
          exact hall j z hj (by rw [List.getElem?_eq_getElem hj, e])
        have ei := ints_of hall'
        have sq := (hA.same sH).sq (K := K)
        have sq' : SqL K H' a ((xs.map intOf).map V.int) ∨ SqT K H' a ((xs.map intOf).map V.int) := by
          rw [← ei]
          exact sq
        refine ⟨_, rfl, a, xs.map intOf, rfl, sq', by rw [List.length_map]; omega, fun n hn => ⟨_, rfl, a, _, rfl, sq, rfl, ?_⟩⟩
        have e : decide (V.int (n : Int) = V.int (xs.length : Int)) = unlikeB m xs := by
          unfold unlikeB
          rw [List.all_eq_true.mpr hall', Bool.true_and]
          rw [List.length_map] at hn
          by_cases q : (xs.map intOf).Nodup
          · rw [decide_eq_true q, decide_eq_true (by rw [hn.mpr q])]
          · rw [decide_eq_false q, decide_eq_false fun z => q (hn.mp (by have := V.int.inj z; omega))]
        rw [e]
        exact k H' sH
      have at_ty : ∀ H1, Same H H1 → SeqAt H1 a xs := fun H1 s1 => hA.same s1
      rcases hA with hA | hA
      · refine ⟨_, PSs.nox (pss_cons (ps_if (pt_not (pt_val (pe_call GS (hr.mono (by decide)) (by rfl) mS FS.kp bS .nil pass0 (pa_cons (pv 0) pa_nil)))) (pss_one (ps_ret pe_bl)) pss_nil)
      (pss_cons (ps_for PassesOwn.never rfl (pi_list (pv 0)) (pg_name (i := 2) sc_unlike.nd rfl (Or.inl rfl)) (pss_one (ps_if (pt_not (pt_val (pe_call GW (hr.mono (by decide)) (by rfl) mW FW.kp bW .nil pass0 (pa_cons (pv 2) (pa_cons pe_int (pa_cons (pe_op op_sub (pv 1) pe_int) pa_nil)))))) (pss_one (ps_ret pe_bl)) pss_nil)))
      (pss_one (ps_ret (pe_cmpR op_eq (pe_lenSetA (by rfl) B.len (by rfl) B.set (pv 0)) (pe_callB call_len_seq (by rfl) B.len PySem.boot_len (pa_cons (pv 0) pa_nil)) (nomark _)))))), ?_⟩
        refine ⟨_, rfl, _, t, rfl, ty, fun H1 s1 => ⟨_, rfl, ?_⟩⟩
        rw [hseq]
        refine iteF ?_
        refine ⟨_, rfl, a, rfl, ⟨_, SqL.of (s1 _ _ hA)⟩, for_list (K := K) (a := a) (xs := xs) (fun i σ H' => Same H H' ∧ (∃ v, σ = [some (.ref a), some (.int m), v]) ∧ ∀ j z, j < i → xs[j]? = some z → wholeB (.int 0) (.int (m - 1)) z = true)
          ⟨s1, ⟨_, rfl⟩, fun j z hj => absurd hj (Nat.not_lt_zero j)⟩ (fun i σ H' _ h => SqL.of (h.1 _ _ hA)) ?_ ?_⟩
        · rintro i y σ H' hi ⟨sH, ⟨v, rfl⟩, hall⟩
          exact turn i y H' v hi sH hall _ (fun H'' s hh => ⟨s, ⟨_, rfl⟩, hh⟩) _ rfl rfl
        · rintro σ H' ⟨sH, ⟨v, rfl⟩, hall⟩
          exact done H' v sH hall
      · refine ⟨_, PSs.nox (pss_cons (ps_if (pt_not (pt_val (pe_call GS (hr.mono (by decide)) (by rfl) mS FS.kp bS .nil pass0 (pa_cons (pv 0) pa_nil)))) (pss_one (ps_ret pe_bl)) pss_nil)
      (pss_cons (ps_for PassesOwn.never rfl (pi_tup (pv 0)) (pg_name (i := 2) sc_unlike.nd rfl (Or.inl rfl)) (pss_one (ps_if (pt_not (pt_val (pe_call GW (hr.mono (by decide)) (by rfl) mW FW.kp bW .nil pass0 (pa_cons (pv 2) (pa_cons pe_int (pa_cons (pe_op op_sub (pv 1) pe_int) pa_nil)))))) (pss_one (ps_ret pe_bl)) pss_nil)))
      (pss_one (ps_ret (pe_cmpR op_eq (pe_lenSetA (by rfl) B.len (by rfl) B.set (pv 0)) (pe_callB call_len_seq (by rfl) B.len PySem.boot_len (pa_cons (pv 0) pa_nil)) (nomark _)))))), ?_⟩
        refine ⟨_, rfl, _, t, rfl, ty, fun H1 s1 => ⟨_, rfl, ?_⟩⟩
        rw [hseq]
        refine iteF ?_
        refine ⟨_, rfl, a, rfl, ⟨_, SqT.of (s1 _ _ hA)⟩, for_tup (K := K) (a := a) (xs := xs) (fun i σ H' => Same H H' ∧ (∃ v, σ = [some (.ref a), some (.int m), v]) ∧ ∀ j z, j < i → xs[j]? = some z → wholeB (.int 0) (.int (m - 1)) z = true)
          ⟨s1, ⟨_, rfl⟩, fun j z hj => absurd hj (Nat.not_lt_zero j)⟩ (fun i σ H' _ h => SqT.of (h.1 _ _ hA)) ?_ ?_⟩
        · rintro i y σ H' hi ⟨sH, ⟨v, rfl⟩, hall⟩
          exact turn i y H' v hi sH hall _ (fun H'' s hh => ⟨s, ⟨_, rfl⟩, hh⟩) _ rfl rfl
        · rintro σ H' ⟨sH, ⟨v, rfl⟩, hall⟩
          exact done H' v sH hall
end
end K16

set_option maxRecDepth 100000
set_option maxHeartbeats 4000000
namespace K16
open PySem PySem.Spec PyProof.Rows L2 Kw
def optV : Option Str → V
  | some z => .str z
  | none => .non
/-- the word due for an entry -/
def entryWord (rb rm : Bool) (wg : Bool) (nm : Nat) : Option Str :=
  if rb = false then some "base" else if wg = false then some "fields" else if rm = false then some "method" else if 3 < nm then some "method" else none
def EntryIs (H : Hp) (x : V) (c : Int) (what : Option Str) : Prop :=
  (∃ t, Ty0 H x t ∧ seqT t = false ∧ what = some "class") ∨ (∃ a xs, x = .ref a ∧ SeqAt H a xs ∧ xs.length ≠ 3 ∧ what = some "class") ∨
  (∃ a b g m rb nb tg rm nm, x = .ref a ∧ SeqAt H a [b, g, m] ∧ UnlikeIs H b c rb nb ∧ Ty0 H g tg ∧ UnlikeIs H m 6 rm nm ∧ what = entryWord rb rm (wholeB (.int 0) (.int 3) g) nm)
def spEntry : Sp := fun vs H Q _ => ∃ (x : V) (c : Int) (what : Option Str), vs = [x, .int c] ∧ EntryIs H x c what ∧ ∀ H', Same H H' → Q (optV what) H'
structure Cst (mg : Str → Option Value) : Prop where
  mf : ∃ t, mg "MOST_FIELDS" = some (.int 3 t)
  mm : ∃ t, mg "MOST_METHODS" = some (.int 3 t)
  mn : ∃ t, mg "METHOD_NAMES" = some (.int 6 t)
  mc : ∃ t, mg "MOST_CLASSES" = some (.int 12 t)
section
variable {P : Program} {w : World} {K : PySem.W.Frag} {mg : Str → Option Value} {base : Heap} {f fS fW fU : Addr} {fd fdS fdW fdU : FuncData}
theorem sc_entry : FnScope ["entry", "c", "bases", "fields", "methods"] ["entry", "c"] (defScope (top 40)) := ⟨rfl, rfl, rfl, by decide +kernel, rfl, by decide +kernel, by decide +kernel⟩
theorem ok_entry (F : FnP K "entry_fault" 40 f fd) (B : Fr mg) (Z : Cst mg) (FS : FnP K "is_sequence" 11 fS fdS) (mS : mg "is_sequence" = some (.ref fS)) (FW : FnDf K "is_whole" 12 [.non, .non] fW fdW) (mW : mg "is_whole" = some (.ref fW))
    (FU : FnP K "is_unlike_row" 13 fU fdU) (mU : mg "is_unlike_row" = some (.ref fU)) : FnOk P w K mg base CX0 3 f fd ["entry", "c"] spEntry := by
  have GS : FnOk P w K mg base CX0 1 fS fdS ["thing"] spIsSeq := ok_isSeq FS B
  have GW : FnOk P w K mg base CX0 1 fW fdW ["thing", "low", "high"] spWhole := ok_whole FW B
  have GU : FnOk P w K mg base CX0 2 fU fdU ["thing", "many"] spUnlike := ok_unlike FU B FS mS FW mW
  have bS : L2.Binds K fdS ["thing"] [] := FS.bindsN fun _ _ _ _ _ _ us hl => match us, hl with | [_], _ => rfl
  have bU : L2.Binds K fdU ["thing", "many"] [] := FU.bindsN fun _ _ _ _ _ _ us hl => match us, hl with | [_, _], _ => rfl
  have bW := binds_whole3 FW
  obtain ⟨tf, zf⟩ := Z.mf
  obtain ⟨tm, zm⟩ := Z.mm
  obtain ⟨tn, zn⟩ := Z.mn
  refine F.ok sc_entry (fun vs H Q E h => ?_) (fun cdv A outer s H vs Q E hr h => ?_)
  · obtain ⟨x, c, what, rfl, _⟩ := h
    rfl
  · obtain ⟨x, c, what, rfl, h, k⟩ := h
    -- what is asked of an entry of three, its parts at hand
    have parts : ∀ (H1 : Hp) (y b g m : V) (rb rm : Bool) (nb nm : Nat) (tg : String), UnlikeIs H1 b c rb nb → Ty0 H1 g tg → UnlikeIs H1 m 6 rm nm → (∀ H', Same H1 H' → Q (optV (entryWord rb rm (wholeB (.int 0) (.int 3) g) nm)) H') →
        (tSeq (tIfS (tNot (tB (tCall spUnlike [] E0 (tCons (tVar 2) (tCons (tVar 1) tNil))))) (tRet (tC (.str "base"))) tNext) (tSeq (tIfS (tNot (tB (tCall spWhole [] E0 (tCons (tVar 3) (tCons (tC (.int 0)) (tCons (tC (.int 3)) tNil)))))) (tRet (tC (.str "fields"))) tNext) (tSeq (tIfS (tOr (tNot (tB (tCall spUnlike [] E0 (tCons (tVar 4) (tCons (tC (.int 6)) tNil))))) (tTest (tOp (rI0 fun i j => .bl (decide (j < i))) (tCB (fun xs H Q => ∃ p ys, xs = [.ref p] ∧ (SqL K H p ys ∨ SqT K H p ys) ∧ Q (.int ys.length) H) (tCons (tVar 4) tNil)) (tC (.int 3))))) (tRet (tC (.str "method"))) tNext) (tRet (tC .non))))) { nx := fun _ H' => Q .non H', rt := Q } [some y, some (.int c), some b, some g, some m] H1 := by
      intro H1 y b g m rb rm nb nm tg hb hg hm k
      refine ⟨_, rfl, _, rfl, b, c, rb, nb, rfl, hb, fun H2 s2 => ⟨_, rfl, ?_⟩⟩
      cases rb with
      | false => exact iteT (k H2 s2)
      | true =>
        refine iteF ⟨_, rfl, g, _, _, tg, rfl, hg.same s2, .inr ⟨_, rfl⟩, .inr ⟨_, rfl⟩, _, rfl, ?_⟩
        cases hw : wholeB (.int 0) (.int 3) g with
        | false =>
          rw [hw] at k
          exact iteT (k H2 s2)
        | true =>
          rw [hw] at k
          refine iteF ⟨_, rfl, m, 6, rm, nm, rfl, hm.same s2, fun H3 s3 => ⟨_, rfl, ?_⟩⟩
          cases rm with
          | false => exact iteT (k H3 (s2.trans s3))
          | true =>
            refine iteF ?_
            rcases hm with ⟨t, ty, e1, e2⟩ | ⟨a, xs, rfl, hA, hl, hty, e1, e2⟩
            · cases e2
            · refine ⟨_, rfl, a, xs, rfl, ((hA.same s2).same s3).sq, _, _, rfl, rfl, _, rfl, ?_⟩
              have k3 := k H3 (s2.trans s3)
              by_cases q : (3 : Int) < (xs.length : Int)
              · have q' : 3 < nm := by omega
                unfold entryWord at k3
                rw [if_neg (by decide), if_neg (by decide), if_neg (by decide), if_pos q'] at k3
                rw [decide_eq_true q]
                exact iteT k3
              · have q' : ¬ 3 < nm := by omega
                unfold entryWord at k3
                rw [if_neg (by decide), if_neg (by decide), if_neg (by decide), if_neg q'] at k3
                rw [decide_eq_false q]
                exact iteF k3
    rcases h with ⟨t, ty, hs, e⟩ | ⟨a, xs, rfl, hA, hn, e⟩ | ⟨a, b, g, m, rb, nb, tg, rm, nm, rfl, hA, hb, hg, hm, e⟩
    · subst e
      refine ⟨_, PSs.nox (pss_cons (ps_if (PW.pt (pw_or (pt_not (pt_val (pe_call GS (hr.mono (by decide)) (by rfl) mS FS.kp bS .nil pass0 (pa_cons (pv 0) pa_nil)))) (pw_or1 (pt_cmpR op_ne (pe_callB call_len_seq (by rfl) B.len PySem.boot_len (pa_cons (pv 0) pa_nil)) pe_int (nomark _))))) (pss_one (ps_ret pe_str)) pss_nil)
        (pss_cons (ps_asg (pv 0) (pg_tup (by rfl) (pgs_cons (pg_name (i := 2) sc_entry.nd rfl (Or.inl rfl)) (pgs_cons (pg_name (i := 3) sc_entry.nd rfl (Or.inl rfl)) (pgs_cons (pg_name (i := 4) sc_entry.nd rfl (Or.inl rfl)) pgs_nil)))))
        (pss_cons (ps_if (pt_not (pt_val (pe_call GU hr (by rfl) mU FU.kp bU .nil pass0 (pa_cons (pv 2) (pa_cons (pv 1) pa_nil))))) (pss_one (ps_ret pe_str)) pss_nil)
        (pss_cons (ps_if (pt_not (pt_val (pe_call GW (hr.mono (by decide)) (by rfl) mW FW.kp bW .nil pass0 (pa_cons (pv 3) (pa_cons pe_int (pa_cons (pe_glob (v := .int 3) (by rfl) zf ⟨_, rfl⟩) pa_nil)))))) (pss_one (ps_ret pe_str)) pss_nil)
        (pss_cons (ps_if (PW.pt (pw_or (pt_not (pt_val (pe_call GU hr (by rfl) mU FU.kp bU .nil pass0 (pa_cons (pv 4) (pa_cons (pe_glob (v := .int 6) (by rfl) zn ⟨_, rfl⟩) pa_nil))))) (pw_or1 (pt_cmpR op_gt (pe_callB call_len_seq (by rfl) B.len PySem.boot_len (pa_cons (pv 4) pa_nil)) (pe_glob (v := .int 3) (by rfl) zm ⟨_, rfl⟩) (nomark _))))) (pss_one (ps_ret pe_str)) pss_nil)
        (pss_one (ps_ret pe_non))))))), ?_⟩
      refine ⟨_, rfl, x, t, rfl, ty, fun H1 s1 => ⟨_, rfl, ?_⟩⟩
      rw [hs]
      exact iteT (k H1 s1)
    · subst e
      obtain ⟨t, ty, hseq⟩ := hA.ty
      refine ⟨_, PSs.nox (pss_cons (ps_if (PW.pt (pw_or (pt_not (pt_val (pe_call GS (hr.mono (by decide)) (by rfl) mS FS.kp bS .nil pass0 (pa_cons (pv 0) pa_nil)))) (pw_or1 (pt_cmpR op_ne (pe_callB call_len_seq (by rfl) B.len PySem.boot_len (pa_cons (pv 0) pa_nil)) pe_int (nomark _))))) (pss_one (ps_ret pe_str)) pss_nil)
        (pss_cons (ps_asg (pv 0) (pg_tup (by rfl) (pgs_cons (pg_name (i := 2) sc_entry.nd rfl (Or.inl rfl)) (pgs_cons (pg_name (i := 3) sc_entry.nd rfl (Or.inl rfl)) (pgs_cons (pg_name (i := 4) sc_entry.nd rfl (Or.inl rfl)) pgs_nil)))))
        (pss_cons (ps_if (pt_not (pt_val (pe_call GU hr (by rfl) mU FU.kp bU .nil pass0 (pa_cons (pv 2) (pa_cons (pv 1) pa_nil))))) (pss_one (ps_ret pe_str)) pss_nil)
        (pss_cons (ps_if (pt_not (pt_val (pe_call GW (hr.mono (by decide)) (by rfl) mW FW.kp bW .nil pass0 (pa_cons (pv 3) (pa_cons pe_int (pa_cons (pe_glob (v := .int 3) (by rfl) zf ⟨_, rfl⟩) pa_nil)))))) (pss_one (ps_ret pe_str)) pss_nil)
        (pss_cons (ps_if (PW.pt (pw_or (pt_not (pt_val (pe_call GU hr (by rfl) mU FU.kp bU .nil pass0 (pa_cons (pv 4) (pa_cons (pe_glob (v := .int 6) (by rfl) zn ⟨_, rfl⟩) pa_nil))))) (pw_or1 (pt_cmpR op_gt (pe_callB call_len_seq (by rfl) B.len PySem.boot_len (pa_cons (pv 4) pa_nil)) (pe_glob (v := .int 3) (by rfl) zm ⟨_, rfl⟩) (nomark _))))) (pss_one (ps_ret pe_str)) pss_nil)
        (pss_one (ps_ret pe_non))))))), ?_⟩
      refine ⟨_, rfl, _, t, rfl, ty, fun H1 s1 => ⟨_, rfl, ?_⟩⟩
      rw [hseq]
      refine iteF ⟨_, rfl, a, xs, rfl, (hA.same s1).sq, rfl, _, rfl, ?_⟩
      have z : decide (V.int (xs.length : Int) = V.int 3) = false := decide_eq_false fun q => hn (by have := V.int.inj q; omega)
      rw [z]
      exact iteT (k H1 s1)
    · subst e
      obtain ⟨t, ty, hseq⟩ := hA.ty
      rcases hA with hA | hA
      · refine ⟨_, PSs.nox (pss_cons (ps_if (PW.pt (pw_or (pt_not (pt_val (pe_call GS (hr.mono (by decide)) (by rfl) mS FS.kp bS .nil pass0 (pa_cons (pv 0) pa_nil)))) (pw_or1 (pt_cmpR op_ne (pe_callB call_len_seq (by rfl) B.len PySem.boot_len (pa_cons (pv 0) pa_nil)) pe_int (nomark _))))) (pss_one (ps_ret pe_str)) pss_nil)
        (pss_cons (ps_asg (pv 0) (pg_unl (by rfl) (pgs_cons (pg_name (i := 2) sc_entry.nd rfl (Or.inl rfl)) (pgs_cons (pg_name (i := 3) sc_entry.nd rfl (Or.inl rfl)) (pgs_cons (pg_name (i := 4) sc_entry.nd rfl (Or.inl rfl)) pgs_nil)))))
        (pss_cons (ps_if (pt_not (pt_val (pe_call GU hr (by rfl) mU FU.kp bU .nil pass0 (pa_cons (pv 2) (pa_cons (pv 1) pa_nil))))) (pss_one (ps_ret pe_str)) pss_nil)
        (pss_cons (ps_if (pt_not (pt_val (pe_call GW (hr.mono (by decide)) (by rfl) mW FW.kp bW .nil pass0 (pa_cons (pv 3) (pa_cons pe_int (pa_cons (pe_glob (v := .int 3) (by rfl) zf ⟨_, rfl⟩) pa_nil)))))) (pss_one (ps_ret pe_str)) pss_nil)
        (pss_cons (ps_if (PW.pt (pw_or (pt_not (pt_val (pe_call GU hr (by rfl) mU FU.kp bU .nil pass0 (pa_cons (pv 4) (pa_cons (pe_glob (v := .int 6) (by rfl) zn ⟨_, rfl⟩) pa_nil))))) (pw_or1 (pt_cmpR op_gt (pe_callB call_len_seq (by rfl) B.len PySem.boot_len (pa_cons (pv 4) pa_nil)) (pe_glob (v := .int 3) (by rfl) zm ⟨_, rfl⟩) (nomark _))))) (pss_one (ps_ret pe_str)) pss_nil)
        (pss_one (ps_ret pe_non))))))), ?_⟩
        refine ⟨_, rfl, _, t, rfl, ty, fun H1 s1 => ⟨_, rfl, ?_⟩⟩
        rw [hseq]
        refine iteF ⟨_, rfl, a, _, rfl, .inl (SqL.of (s1 _ _ hA)), rfl, _, rfl, iteF ?_⟩
        refine ⟨_, rfl, a, _, rfl, SqL.of (s1 _ _ hA), rfl, _, _, rfl, _, _, rfl, _, _, rfl, rfl, ?_⟩
        exact parts H1 _ b g m rb rm nb nm tg (hb.same s1) (hg.same s1) (hm.same s1) fun H' s => k H' (s1.trans s)
      · refine ⟨_, PSs.nox (pss_cons (ps_if (PW.pt (pw_or (pt_not (pt_val (pe_call GS (hr.mono (by decide)) (by rfl) mS FS.kp bS .nil pass0 (pa_cons (pv 0) pa_nil)))) (pw_or1 (pt_cmpR op_ne (pe_callB call_len_seq (by rfl) B.len PySem.boot_len (pa_cons (pv 0) pa_nil)) pe_int (nomark _))))) (pss_one (ps_ret pe_str)) pss_nil)
        (pss_cons (ps_asg (pv 0) (pg_tup (by rfl) (pgs_cons (pg_name (i := 2) sc_entry.nd rfl (Or.inl rfl)) (pgs_cons (pg_name (i := 3) sc_entry.nd rfl (Or.inl rfl)) (pgs_cons (pg_name (i := 4) sc_entry.nd rfl (Or.inl rfl)) pgs_nil)))))
        (pss_cons (ps_if (pt_not (pt_val (pe_call GU hr (by rfl) mU FU.kp bU .nil pass0 (pa_cons (pv 2) (pa_cons (pv 1) pa_nil))))) (pss_one (ps_ret pe_str)) pss_nil)
        (pss_cons (ps_if (pt_not (pt_val (pe_call GW (hr.mono (by decide)) (by rfl) mW FW.kp bW .nil pass0 (pa_cons (pv 3) (pa_cons pe_int (pa_cons (pe_glob (v := .int 3) (by rfl) zf ⟨_, rfl⟩) pa_nil)))))) (pss_one (ps_ret pe_str)) pss_nil)
        (pss_cons (ps_if (PW.pt (pw_or (pt_not (pt_val (pe_call GU hr (by rfl) mU FU.kp bU .nil pass0 (pa_cons (pv 4) (pa_cons (pe_glob (v := .int 6) (by rfl) zn ⟨_, rfl⟩) pa_nil))))) (pw_or1 (pt_cmpR op_gt (pe_callB call_len_seq (by rfl) B.len PySem.boot_len (pa_cons (pv 4) pa_nil)) (pe_glob (v := .int 3) (by rfl) zm ⟨_, rfl⟩) (nomark _))))) (pss_one (ps_ret pe_str)) pss_nil)
        (pss_one (ps_ret pe_non))))))), ?_⟩
        refine ⟨_, rfl, _, t, rfl, ty, fun H1 s1 => ⟨_, rfl, ?_⟩⟩
        rw [hseq]
        refine iteF ⟨_, rfl, a, _, rfl, .inr (SqT.of (s1 _ _ hA)), rfl, _, rfl, iteF ?_⟩
        refine ⟨_, rfl, a, _, rfl, SqT.of (s1 _ _ hA), rfl, _, _, rfl, _, _, rfl, _, _, rfl, rfl, ?_⟩
        exact parts H1 _ b g m rb rm nb nm tg (hb.same s1) (hg.same s1) (hm.same s1) fun H' s => k H' (s1.trans s)
end
end K16

set_option maxRecDepth 100000
set_option maxHeartbeats 4000000
namespace K16
open PySem PySem.Spec PyProof.Rows L2 Kw
/-! ### elders, as plain lists -/
def isEld (rows : List (List Nat)) (row : List Nat) (e : Nat) : Bool := row.any fun b => e == b || (rows.getD b []).contains e
def elStep (rows : List (List Nat)) (row : List Nat) : List Nat := (List.range rows.length).filter (isEld rows row)
def elders (bs : List (List Nat)) : List (List Nat) := bs.foldl (fun rows row => rows ++ [elStep rows row]) []
def validB (bs : List (List Nat)) : Prop := ∀ (c : Nat) (row : List Nat), bs[c]? = some row → ∀ b ∈ row, b < c
theorem elders_more {bs : List (List Nat)} {i : Nat} {row : List Nat} (h : bs[i]? = some row) : elders (bs.take (i + 1)) = elders (bs.take i) ++ [elStep (elders (bs.take i)) row] := by
  unfold elders
  rw [List.take_add_one, h, Option.toList_some, List.foldl_append]
  rfl
theorem elders_len : ∀ (bs : List (List Nat)), (elders bs).length = bs.length := by
  intro bs
  have key : ∀ (bs : List (List Nat)) (acc : List (List Nat)), (bs.foldl (fun rows row => rows ++ [elStep rows row]) acc).length = acc.length + bs.length := by
    intro bs
    induction bs with
    | nil => intro acc; rfl
    | cons b r ih =>
      intro acc
      rw [List.foldl_cons, ih, List.length_append]
      simp only [List.length_cons, List.length_nil]
      omega
  have z := key bs []
  rw [List.length_nil, Nat.zero_add] at z
  exact z
theorem elStep_lt {rows : List (List Nat)} {row : List Nat} {e : Nat} (h : e ∈ elStep rows row) : e < rows.length := List.mem_range.mp (List.mem_filter.mp h).1
/-- every elder of an elder row lies below -/
theorem elders_lt : ∀ (bs : List (List Nat)) (c : Nat) (l : List Nat), (elders bs)[c]? = some l → ∀ e ∈ l, e < c := by
  intro bs
  have key : ∀ (bs : List (List Nat)) (acc : List (List Nat)), (∀ (c : Nat) (l : List Nat), acc[c]? = some l → ∀ e ∈ l, e < c) → ∀ (c : Nat) (l : List Nat), (bs.foldl (fun rows row => rows ++ [elStep rows row]) acc)[c]? = some l → ∀ e ∈ l, e < c := by
    intro bs
    induction bs with
    | nil => intro acc h; exact h
    | cons b r ih =>
      intro acc h
      rw [List.foldl_cons]
      refine ih _ fun c l hc e he => ?_
      by_cases q : c < acc.length
      · rw [List.getElem?_append_left q] at hc
        exact h c l hc e he
      · rw [List.getElem?_append_right (by omega)] at hc
        by_cases q2 : c - acc.length = 0
        · rw [q2] at hc
          have e1 : elStep acc b = l := Option.some.inj hc
          rw [← e1] at he
          have := elStep_lt he
          omega
        · rw [List.getElem?_eq_none (by rw [List.length_singleton]; omega)] at hc
          cases hc
  exact key bs [] fun c l h => by simp at h
/-! ### keys of a dict, as they are put in -/
def addN (ks : List Nat) (e : Nat) : List Nat := if e ∈ ks then ks else ks ++ [e]
def KeysAre (kvs : List (Key × V)) (ks : List Nat) : Prop := kvs.map (·.1) = ks.map fun (n : Nat) => (Sum.inl (n : Int) : Key)
theorem mem_addN {ks : List Nat} {e x : Nat} : x ∈ addN ks e ↔ x ∈ ks ∨ x = e := by
  unfold addN
  by_cases h : e ∈ ks
  · rw [if_pos h]
    exact ⟨.inl, fun q => q.elim id fun z => z ▸ h⟩
  · rw [if_neg h, List.mem_append, List.mem_singleton]
theorem nodup_addN {ks : List Nat} {e : Nat} (h : ks.Nodup) : (addN ks e).Nodup := by
  unfold addN
  by_cases q : e ∈ ks
  · rw [if_pos q]
    exact h
  · rw [if_neg q]
    refine List.nodup_append.mpr ⟨h, by simp, fun a ha b hb z => q ?_⟩
    rw [List.mem_singleton.mp hb] at z
    exact z ▸ ha
theorem len_addN {ks : List Nat} {e : Nat} : (addN ks e).length ≤ ks.length + 1 := by
  unfold addN
  split
  · omega
  · rw [List.length_append, List.length_singleton]; omega
theorem keys_put {kvs : List (Key × V)} {ks : List Nat} {e : Nat} {v : V} (h : KeysAre kvs ks) : KeysAre (putK kvs (Sum.inl (e : Int)) v) (addN ks e) := by
  have hm : ∀ n : Nat, (Sum.inl (n : Int) : Key) ∈ kvs.map (·.1) ↔ n ∈ ks := fun n => by
    rw [h, List.mem_map]
    constructor
    · rintro ⟨k, hk, e⟩
      have z : (k : Int) = (n : Int) := Sum.inl.inj e
      have z2 : k = n := by omega
      subst z2
      exact hk
    · exact fun hk => ⟨n, hk, rfl⟩
  unfold putK addN
  by_cases q : e ∈ ks
  · have a : (kvs.any fun kv => decide (kv.1 = (Sum.inl (e : Int) : Key))) = true := by
      obtain ⟨kv, h1, h2⟩ := List.mem_map.mp ((hm e).mpr q)
      exact List.any_eq_true.mpr ⟨kv, h1, decide_eq_true h2⟩
    rw [if_pos a, if_pos q]
    unfold KeysAre
    rw [List.map_map, ← h]
    refine List.map_congr_left fun kv _ => ?_
    show (if kv.1 = Sum.inl (e : Int) then (kv.1, v) else kv).1 = kv.1
    split <;> rfl
  · have a : ¬ (kvs.any fun kv => decide (kv.1 = (Sum.inl (e : Int) : Key))) = true := fun z => by
      obtain ⟨kv, h1, h2⟩ := List.any_eq_true.mp z
      exact q ((hm e).mp (List.mem_map.mpr ⟨kv, h1, of_decide_eq_true h2⟩))
    rw [if_neg a, if_neg q]
    unfold KeysAre
    rw [List.map_append, List.map_append, h]
    rfl
/-! ### a list of tuples of numbers -/
def natV (n : Nat) : V := V.int (n : Int)
def TupsAt (H : Hp) : List V → List (List Nat) → Prop := Paired fun v l => ∃ t, v = .ref t ∧ H t = some (.tup (l.map natV))
theorem TupsAt.mono {H H' : Hp} (k : ∀ b xs, H b = some (.tup xs) → H' b = some (.tup xs)) : ∀ {vs : List V} {ls : List (List Nat)}, TupsAt H vs ls → TupsAt H' vs ls
  | [], [], _ => .nil
  | _ :: _, _ :: _, .cons ⟨t, e, h⟩ r => .cons ⟨t, e, k _ _ h⟩ (TupsAt.mono k r)
theorem TupsAt.same {H H' : Hp} {vs : List V} {ls : List (List Nat)} (h : TupsAt H vs ls) (s : Same H H') : TupsAt H' vs ls := h.mono fun b xs e => s b _ e
theorem TupsAt.len {H : Hp} {vs : List V} {ls : List (List Nat)} (h : TupsAt H vs ls) : vs.length = ls.length := Paired.length h
theorem TupsAt.get {H : Hp} : ∀ {vs : List V} {ls : List (List Nat)} {i : Nat} {l : List Nat}, TupsAt H vs ls → ls[i]? = some l → ∃ t, vs[i]? = some (.ref t) ∧ H t = some (.tup (l.map natV))
  | [], [], _, _, _, h => by simp at h
  | _ :: _, _ :: _, 0, _, .cons ⟨t, e1, h⟩ _, e => by
    obtain rfl := Option.some.inj e
    exact ⟨t, by rw [e1]; rfl, h⟩
  | _ :: _, _ :: _, i + 1, _, .cons _ r, e => TupsAt.get (i := i) r e
theorem TupsAt.app {H : Hp} : ∀ {vs us : List V} {ls ms : List (List Nat)}, TupsAt H vs ls → TupsAt H us ms → TupsAt H (vs ++ us) (ls ++ ms)
  | [], _, [], _, _, h => h
  | _ :: _, _, _ :: _, _, .cons h r, s => .cons h (TupsAt.app r s)
/-- a list's or a dict's place written: tuples stand -/
theorem tups_upd {H : Hp} {a : Addr} {o u : HO} (ha : H a = some o) (hn : ∀ xs, o ≠ .tup xs) : ∀ b xs, H b = some (.tup xs) → upd H a u b = some (.tup xs) := fun b xs e => by
  have ne : b ≠ a := fun z => by
    rw [z, ha] at e
    exact hn xs (Option.some.inj e)
  rw [upd_ne ne]
  exact e
theorem sorted_one {ys : List Int} {a b : List Nat} (p : ys.Perm (a.map fun (n : Nat) => (n : Int))) (hs : ys.Pairwise (· ≤ ·)) (ha : a.Nodup) (hb : b.Nodup) (hm : ∀ x, x ∈ a ↔ x ∈ b) (hbs : b.Pairwise (· < ·)) : ys.map V.int = b.map natV := by
  have p2 : ys.Perm (b.map fun (n : Nat) => (n : Int)) := p.trans (((List.perm_ext_iff_of_nodup ha hb).mpr hm).map _)
  have hb2 : (b.map fun (n : Nat) => (n : Int)).Pairwise (· ≤ ·) := List.pairwise_map.mpr (hbs.imp fun h => by omega)
  have e : ys = b.map fun (n : Nat) => (n : Int) := p2.eq_of_pairwise (fun x y _ _ h1 h2 => Int.le_antisymm h1 h2) hs hb2
  rw [e, List.map_map]
  rfl
end K16

set_option maxRecDepth 100000
set_option maxHeartbeats 4000000
namespace K16
open PySem PySem.Spec PyProof.Rows L2 Kw
theorem same_upd {H0 H1 : Hp} {p : Addr} {o : HO} (s : Same H0 H1) (hp : H0 p = none) : Same H0 (upd H1 p o) := fun b u e => by
  rw [upd_ne (ne_of_none e hp)]
  exact s b u e
/-- a dict that holds just these numbers as keys -/
def DictHas (H : Hp) (p : Addr) (P : Nat → Prop) (n : Nat) : Prop := ∃ kvs ks, H p = some (.dK kvs) ∧ KeysAre kvs ks ∧ ks.Nodup ∧ ks.length ≤ n ∧ kvs.length ≤ n ∧ ∀ x, x ∈ ks ↔ P x
theorem DictHas.put {H : Hp} {p : Addr} {P : Nat → Prop} {n e : Nat} {v : V} (h : DictHas H p P n) (hn : n < sizeLine) : ∃ H', DPut H p (.int (e : Int)) v H' ∧ (∃ o, H' = upd H p o) ∧ DictHas H' p (fun x => P x ∨ x = e) (n + 1) := by
  obtain ⟨kvs, ks, h1, h2, h3, h4, h5, h6⟩ := h
  refine ⟨_, DPut.k (k := Sum.inl (e : Int)) h1 (by omega), ⟨_, rfl⟩, _, addN ks e, upd_same, keys_put h2, nodup_addN h3, Nat.le_trans len_addN (by omega), Nat.le_trans (length_putK _ _ _) (by omega), fun x => ?_⟩
  rw [mem_addN, h6]
theorem DictHas.iff {H : Hp} {p : Addr} {P P' : Nat → Prop} {n : Nat} (h : DictHas H p P n) (k : ∀ x, P x ↔ P' x) : DictHas H p P' n := by
  obtain ⟨kvs, ks, h1, h2, h3, h4, h5, h6⟩ := h
  exact ⟨kvs, ks, h1, h2, h3, h4, h5, fun x => (h6 x).trans (k x)⟩
theorem DictHas.le {H : Hp} {p : Addr} {P : Nat → Prop} {n m : Nat} (h : DictHas H p P n) (k : n ≤ m) : DictHas H p P m := by
  obtain ⟨kvs, ks, h1, h2, h3, h4, h5, h6⟩ := h
  exact ⟨kvs, ks, h1, h2, h3, by omega, by omega, h6⟩
theorem elStep_mem {rows : List (List Nat)} {row : List Nat} (hlt : ∀ b ∈ row, b < rows.length) (hr : ∀ (c : Nat) (l : List Nat), rows[c]? = some l → ∀ e ∈ l, e < c) (x : Nat) : x ∈ elStep rows row ↔ ∃ b ∈ row, x = b ∨ x ∈ rows.getD b [] := by
  unfold elStep isEld
  rw [List.mem_filter, List.mem_range, List.any_eq_true]
  constructor
  · rintro ⟨_, b, hb, h⟩
    refine ⟨b, hb, ?_⟩
    rw [Bool.or_eq_true] at h
    exact h.imp (fun h => by simpa using h) fun h => by simpa using h
  · rintro ⟨b, hb, h⟩
    have hbl := hlt b hb
    refine ⟨?_, b, hb, ?_⟩
    · rcases h with h | h
      · omega
      · have e : rows[b]? = some (rows.getD b []) := by
          rw [List.getElem?_eq_getElem hbl, List.getD_eq_getElem?_getD, List.getElem?_eq_getElem hbl]
          rfl
        have := hr b _ e x h
        omega
    · rw [Bool.or_eq_true]
      exact h.imp (fun h => by simpa using h) fun h => by simpa using h
theorem elStep_up (rows : List (List Nat)) (row : List Nat) : (elStep rows row).Pairwise (· < ·) := List.Pairwise.filter _ List.pairwise_lt_range
theorem elStep_len (rows : List (List Nat)) (row : List Nat) : (elStep rows row).length ≤ rows.length := by
  have := List.length_filter_le (isEld rows row) (List.range rows.length)
  rw [List.length_range] at this
  exact this
theorem up_nodup {l : List Nat} (h : l.Pairwise (· < ·)) : l.Nodup := h.imp fun h => Nat.ne_of_lt h
theorem elders_len_row : ∀ (bs : List (List Nat)) (c : Nat) (l : List Nat), (elders bs)[c]? = some l → l.length ≤ bs.length := by
  intro bs
  have key : ∀ (bs : List (List Nat)) (acc : List (List Nat)), (∀ l ∈ acc, l.length ≤ acc.length) → ∀ l ∈ bs.foldl (fun rows row => rows ++ [elStep rows row]) acc, l.length ≤ acc.length + bs.length := by
    intro bs
    induction bs with
    | nil => intro acc h l hl; exact Nat.le_trans (h l hl) (Nat.le_add_right _ _)
    | cons b r ih =>
      intro acc h l hl
      rw [List.foldl_cons] at hl
      have hlen : (acc ++ [elStep acc b]).length = acc.length + 1 := by rw [List.length_append]; rfl
      have := ih (acc ++ [elStep acc b]) (fun l hl => by
        rw [hlen]
        rcases List.mem_append.mp hl with hl | hl
        · exact Nat.le_succ_of_le (h l hl)
        · rw [List.mem_singleton.mp hl]
          exact Nat.le_succ_of_le (elStep_len _ _)) l hl
      rw [hlen] at this
      rw [List.length_cons]
      omega
  intro c l h
  have := key bs [] (fun l hl => by cases hl) l (List.mem_of_getElem? h)
  rw [List.length_nil, Nat.zero_add] at this
  exact this
section
variable {P : Program} {w : World} {K : PySem.W.Frag} {mg : Str → Option Value} {base : Heap} {f : Addr} {fd : FuncData}
def spElders : Sp := fun vs H Q _ => ∃ (a : Addr) (ws : List V) (bs : List (List Nat)), vs = [.ref a] ∧ H a = some (.tup ws) ∧ TupsAt H ws bs ∧ validB bs ∧ bs.length ≤ 12 ∧ (∀ row ∈ bs, row.length ≤ 12) ∧
  ∀ H' p us, Same H H' → H' p = some (.tup us) → TupsAt H' us (elders bs) → Q (.ref p) H'
theorem sc_elders : FnScope ["bases", "rows", "row", "found", "base", "elder"] ["bases"] (defScope (top 41)) := ⟨rfl, rfl, rfl, by decide +kernel, rfl, by decide +kernel, by decide +kernel⟩
theorem ok_elders (F : FnP K "elder_rows" 41 f fd) (B : Fr mg) : FnOk P w K mg base CX0 1 f fd ["bases"] spElders := by
  refine F.ok sc_elders (fun vs H Q E h => ?_) (fun cdv A outer s H vs Q E hr h => ?_)
  · obtain ⟨a, ws, bs, rfl, _⟩ := h
    rfl
  · obtain ⟨a, ws, bs, rfl, hA, hT, hv, h12, hr12, k⟩ := h
    refine ⟨_, PSs.nox (pss_cons (ps_set (i := 1) sc_elders.nd rfl (Or.inl rfl) (pe_lst pa_nil))
      (pss_cons (ps_for PassesOwn.never rfl (pi_tup (pv 0)) (pg_name (i := 2) sc_elders.nd rfl (Or.inl rfl))
        (pss_cons (ps_set (i := 3) sc_elders.nd rfl (Or.inl rfl) pe_dnewK)
        (pss_cons (ps_for PassesOwn.never rfl (pi_tup (pv 2)) (pg_name (i := 4) sc_elders.nd rfl (Or.inl rfl))
          (pss_cons (ps_dput (hu_of hr) (pv 3) (pv 4) pe_bl rfl)
          (pss_one (ps_for PassesOwn.never rfl (pi_tup (pe_ix ix_list (pv 1) (pv 4) (fun _ _ => rfl))) (pg_name (i := 5) sc_elders.nd rfl (Or.inl rfl))
            (pss_one (ps_dput (hu_of hr) (pv 3) (pv 5) pe_bl rfl))))))
        (pss_one (ps_expr (pe_bm PySem.F.plainAttrs_list PySem.F.slot_list_append PySem.F.type_list_append mt_append (pv 1) (pa_cons (pe_callTy call_tuple_of (by rfl) B.tuple (by decide +kernel) (pa_cons (pe_callB (Kw.call_sortedDI rfl) (by rfl) B.sorted (by decide +kernel) (pa_cons (pv 3) pa_nil)) pa_nil)) pa_nil)))))))
      (pss_one (ps_ret (pe_callTy call_tuple_of (by rfl) B.tuple (by decide +kernel) (pa_cons (pv 1) pa_nil)))))), ?_⟩
    refine ⟨by decide, fun R hR => ?_⟩
    refine ⟨_, rfl, a, rfl, ⟨_, SqT.of (same_new hR _ _ hA)⟩, for_tup (K := K) (a := a) (xs := ws) (fun i σ H' => Same H H' ∧ ∃ us x y z u, σ = [some (.ref a), some (.ref R), x, y, z, u] ∧ H' R = some (.lst us) ∧ TupsAt H' us (elders (bs.take i)))
      ⟨same_new hR, [], none, none, none, none, rfl, upd_same, .nil⟩ (fun i σ H' _ h => SqT.of (h.1 _ _ hA)) ?_ ?_⟩
    · rintro i y σ H' hi ⟨sH, us, x0, y0, z0, u0, rfl, hRu, hU⟩
      have hbl : ws.length = bs.length := hT.len
      have hil : i < bs.length := by
        rw [← hbl]
        exact (List.getElem?_eq_some_iff.mp hi).1
      obtain ⟨row, hrow⟩ : ∃ row, bs[i]? = some row := ⟨_, List.getElem?_eq_getElem hil⟩
      obtain ⟨t, et, ht⟩ := hT.get hrow
      obtain rfl : V.ref t = y := Option.some.inj (et.symm.trans hi)
      have hE : (elders (bs.take i)).length = i := by rw [elders_len, List.length_take, Nat.min_eq_left (Nat.le_of_lt hil)]
      have hlt : ∀ b ∈ row, b < i := hv i row hrow
      have hrl : row.length ≤ 12 := hr12 row (List.mem_of_getElem? hrow)
      have hus : us.length = i := hU.len.trans hE
      refine fun p hp => ?_
      have sp : Same H' (upd H' p (.dK [])) := same_new hp
      refine ⟨_, rfl, t, rfl, ⟨_, SqT.of (sp _ _ (sH _ _ ht))⟩, for_tup (K := K) (a := t) (xs := row.map natV) (fun j σ H2 => Same H' H2 ∧ ∃ z u, σ = [some (.ref a), some (.ref R), some (.ref t), some (.ref p), z, u] ∧ DictHas H2 p (fun x => ∃ b ∈ row.take j, x = b ∨ x ∈ (elders (bs.take i)).getD b []) (j * 14))
        ⟨sp, z0, u0, rfl, [], [], upd_same, rfl, List.nodup_nil, Nat.zero_le _, Nat.zero_le _, fun x => by simp⟩ (fun j σ H2 _ h => SqT.of (h.1 _ _ (sH _ _ ht))) ?_ ?_⟩
      · rintro j y σ H2 hj ⟨s2, z1, u1, rfl, hD⟩
        rw [List.getElem?_map] at hj
        obtain ⟨b, hb, rfl⟩ := Option.map_eq_some_iff.mp hj
        have hjl : j < row.length := (List.getElem?_eq_some_iff.mp hb).1
        have hbi : b < i := hlt b (List.mem_of_getElem? hb)
        obtain ⟨H3, hput, ⟨o3, e3⟩, hD3⟩ := hD.put (e := b) (v := .bl true) (by show j * 14 < 2 ^ 24; omega)
        have s3 : Same H' H3 := by
          rw [e3]
          exact same_upd s2 hp
        refine ⟨_, rfl, _, rfl, p, H3, rfl, hput, ?_⟩
        obtain ⟨l, hl⟩ : ∃ l, (elders (bs.take i))[b]? = some l := ⟨_, List.getElem?_eq_getElem (by rw [hE]; exact hbi)⟩
        have hgd : (elders (bs.take i)).getD b [] = l := by
          rw [List.getD_eq_getElem?_getD, hl]
          rfl
        have hll : l.length ≤ 12 := by
          have := elders_len_row _ _ _ hl
          rw [List.length_take] at this
          omega
        obtain ⟨q, eq, hq⟩ := hU.get hl
        refine ⟨_, rfl, _, rfl, R, us, _, _, rfl, rfl, SqL.of (s3 _ _ hRu), atI_nat eq, q, rfl, ⟨_, SqT.of (s3 _ _ hq)⟩, for_tup (K := K) (a := q) (xs := l.map natV) (fun m σ H4 => Same H' H4 ∧ ∃ u, σ = [some (.ref a), some (.ref R), some (.ref t), some (.ref p), some (natV b), u] ∧ DictHas H4 p (fun x => ((∃ b ∈ row.take j, x = b ∨ x ∈ (elders (bs.take i)).getD b []) ∨ x = b) ∨ x ∈ l.take m) (j * 14 + 1 + m))
          ⟨s3, u1, rfl, hD3.iff fun x => by simp⟩ (fun m σ H4 _ h => SqT.of (h.1 _ _ hq)) ?_ ?_⟩
        · rintro m y σ H4 hm ⟨s4, u2, rfl, hD4⟩
          rw [List.getElem?_map] at hm
          obtain ⟨e, he, rfl⟩ := Option.map_eq_some_iff.mp hm
          have hml : m < l.length := (List.getElem?_eq_some_iff.mp he).1
          obtain ⟨H5, hput5, ⟨o5, e5⟩, hD5⟩ := hD4.put (e := e) (v := .bl true) (by show j * 14 + 1 + m < 2 ^ 24; omega)
          refine ⟨_, rfl, _, rfl, p, H5, rfl, hput5, by rw [e5]; exact same_upd s4 hp, _, rfl, hD5.iff fun x => ?_⟩
          rw [List.take_add_one, he, Option.toList_some, List.mem_append, List.mem_singleton, or_assoc]
        · rintro σ H4 ⟨s4, u2, rfl, hD4⟩
          rw [List.length_map] at hD4
          refine ⟨s4, _, _, rfl, (hD4.iff fun x => ?_).le (by omega)⟩
          rw [List.take_add_one, hb, Option.toList_some, List.take_length]
          constructor
          · rintro ((⟨c, hc, h⟩ | h) | h)
            · exact ⟨c, List.mem_append_left _ hc, h⟩
            · exact ⟨b, List.mem_append_right _ (List.mem_singleton.mpr rfl), .inl h⟩
            · exact ⟨b, List.mem_append_right _ (List.mem_singleton.mpr rfl), .inr (by rw [hgd]; exact h)⟩
          · rintro ⟨c, hc, h⟩
            rcases List.mem_append.mp hc with hc | hc
            · exact .inl (.inl ⟨c, hc, h⟩)
            · obtain rfl := List.mem_singleton.mp hc
              rcases h with h | h
              · exact .inl (.inr h)
              · rw [hgd] at h
                exact .inr h
      · rintro σ H2 ⟨s2, z1, u1, rfl, kvs, ks, h1, h2, h3, h4, h5, h6⟩
        rw [List.length_map, List.take_length] at h6
        rw [List.length_map] at h4
        refine ⟨_, rfl, .inl ⟨rfl, _, SqL.of (s2 _ _ hRu)⟩, _, rfl, p, kvs, ks.map fun (n : Nat) => (n : Int), rfl, .inl h1, ?_, ?_, fun ys L perm srt hL => ?_⟩
        · rw [h2, List.map_map]
          rfl
        · rw [List.length_map]
          omega
        · have sL : Same H2 (upd H2 L (.lst (ys.map V.int))) := same_new hL
          refine ⟨L, ys.map V.int, rfl, .inl ⟨SqL.of upd_same, fun T hT' => ?_⟩⟩
          have sT : Same (upd H2 L (.lst (ys.map V.int))) (upd (upd H2 L (.lst (ys.map V.int))) T (.tup (ys.map V.int))) := same_new hT'
          have sAll := (s2.trans sL).trans sT
          have eys : ys.map V.int = (elStep (elders (bs.take i)) row).map natV := sorted_one perm srt h3 (up_nodup (elStep_up _ _)) (fun x => (h6 x).trans (elStep_mem (fun b hb => by rw [hE]; exact hlt b hb) (elders_lt _) x).symm) (elStep_up _ _)
          refine ⟨R, us, _, rfl, rfl, sAll _ _ hRu, by rw [hus]; show i < 2 ^ 24; omega, same_upd ((sH.trans s2).trans (sL.trans sT)) hR, us ++ [.ref T], _, _, _, _, rfl, upd_same, ?_⟩
          have keep : ∀ b xs, upd (upd H2 L (.lst (ys.map V.int))) T (.tup (ys.map V.int)) b = some (.tup xs) → upd (upd (upd H2 L (.lst (ys.map V.int))) T (.tup (ys.map V.int))) R (.lst (us ++ [.ref T])) b = some (.tup xs) := tups_upd (sAll _ _ hRu) fun xs z => by cases z
          rw [elders_more hrow]
          refine ((hU.same sAll).mono keep).app (.cons ⟨T, rfl, ?_⟩ .nil)
          rw [← eys]
          exact keep _ _ upd_same
    · rintro σ H' ⟨sH, us, x0, y0, z0, u0, rfl, hRu, hU⟩
      have hbl : ws.length = bs.length := hT.len
      rw [hbl, List.take_length] at hU
      refine ⟨_, rfl, R, us, rfl, .inl ⟨SqL.of hRu, fun p hp => ?_⟩⟩
      exact k _ p us (sH.trans (same_new hp)) upd_same (hU.same (same_new hp))
end
end K16

set_option maxRecDepth 100000
set_option maxHeartbeats 4000000
namespace K16
open PySem PySem.Spec PyProof.Rows L2 Kw
def heirRow (es : List (List Nat)) (n c : Nat) : List Nat := (List.range n).filter fun h => (es.getD h []).contains c
def heirs (es : List (List Nat)) : List (List Nat) := (List.range es.length).map (heirRow es es.length)
theorem inV_nat (c : Nat) : ∀ l : List Nat, inV (natV c) (l.map natV) = l.contains c
  | [] => rfl
  | x :: r => by
    unfold inV
    rw [List.map_cons, List.any_cons, List.contains_cons]
    have ih := inV_nat c r
    unfold inV at ih
    rw [ih]
    congr 1
    show ((x : Int) == (c : Int)) = (c == x)
    rw [Bool.eq_iff_iff, beq_iff_eq, beq_iff_eq]
    omega
theorem flat_nats : ∀ l : List Nat, (l.map natV).all flatV = true
  | [] => rfl
  | _ :: r => by
    rw [List.map_cons, List.all_cons, flat_nats r]
    rfl
theorem heirRow_more (es : List (List Nat)) (n c i : Nat) (hi : i < n) : ((List.range n).take (i + 1)).filter (fun h => (es.getD h []).contains c) = ((List.range n).take i).filter (fun h => (es.getD h []).contains c) ++ (if (es.getD i []).contains c then [i] else []) := by
  rw [List.take_add_one, List.filter_append, List.getElem?_range hi, Option.toList_some]
  congr 1
  cases h : (es.getD i []).contains c with
  | true => rw [List.filter_cons_of_pos (by exact h)]; rfl
  | false => rw [List.filter_cons_of_neg (by show ¬ (es.getD i []).contains c = true; rw [h]; decide)]; rfl
/-- tuple(xs) -/
structure rTupOf (K : PySem.W.Frag) (xs : List V) (H : Hp) (Q : VK) : Prop where
  h : ∃ p ys, xs = [.ref p] ∧ ((SqL K H p ys ∧ ∀ l, H l = none → Q (.ref l) (upd H l (.tup ys))) ∨ (SqT K H p ys ∧ Q (.ref p) H))
theorem call_tup {X : Cx} : CallR X (.type "tuple") (rTupOf X.K) := fun pins s σ H vs us Q I r h => call_tuple_of pins s σ H vs us Q I r h.h
section
variable {P : Program} {w : World} {K : PySem.W.Frag} {mg : Str → Option Value} {base : Heap} {f : Addr} {fd : FuncData}
def spHeirs : Sp := fun vs H Q _ => ∃ (a : Addr) (ws : List V) (es : List (List Nat)), vs = [.ref a] ∧ H a = some (.tup ws) ∧ TupsAt H ws es ∧ es.length ≤ 12 ∧ ∀ H' p us, Same H H' → H' p = some (.tup us) → TupsAt H' us (heirs es) → Q (.ref p) H'
theorem sc_heirs : FnScope ["elders", "many", "c", "heir"] ["elders"] (defScope (top 42)) := ⟨rfl, rfl, rfl, by decide +kernel, rfl, by decide +kernel, by decide +kernel⟩
theorem ok_heirs (F : FnP K "heir_rows" 42 f fd) (B : Fr mg) : FnOk P w K mg base CX0 1 f fd ["elders"] spHeirs := by
  refine F.ok sc_heirs (fun vs H Q E h => ?_) (fun cdv A outer s H vs Q E hr h => ?_)
  · obtain ⟨a, ws, es, rfl, _⟩ := h
    rfl
  · obtain ⟨a, ws, es, rfl, hA, hT, h12, k⟩ := h
    refine ⟨_, PSs.nox (pss_cons (ps_set (i := 1) sc_heirs.nd rfl (Or.inr rfl) (pe_callB call_len_seq (by rfl) B.len PySem.boot_len (pa_cons (pv 0) pa_nil)))
      (pss_one (ps_ret (pe_callTy call_tuple_of (by rfl) B.tuple (by decide +kernel) (pa_cons
        (pe_lc (own := [("c", 2)]) (g := gName 2) (tt := tYes) rfl sc_heirs.nd (pi_range1 (by rfl) B.range (pa_cons (pv 1) pa_nil)) (blkOk_by (N := ["elders", "many", "c", "heir"]) (sc := defScope (top 42)) (by decide +kernel))
          (fun _ _ _ _ _ => pg_name (i := 2) sc_heirs.nd rfl (Or.inr rfl)) (fun _ _ _ _ _ => pts_nil)
          (fun _ _ _ _ _ => pe_callTy (T := "tuple") (r := rTupOf K) (call_tup (X := _)) (by rfl) B.tuple (by decide +kernel) (pa_cons
            (pe_lc (own := [("heir", 3)]) (g := gName 3) rfl sc_heirs.nd (pi_range1 (by rfl) B.range (pa_cons (pv 1) pa_nil)) (blkOk_by (by rfl))
              (fun _ _ _ _ _ => pg_name (i := 3) sc_heirs.nd rfl (Or.inl rfl)) (fun _ _ _ _ _ => pts_one (pt_cmpR (r := rIn K false) op_in_seq (pv 2) (pe_ix (r := rIxT K) ix_tup (pv 0) (pv 3) (fun _ _ => rfl)) (by rfl)))
              (fun _ _ _ _ _ => pv 3)) pa_nil))) pa_nil))))), ?_⟩
    have hbl : ws.length = es.length := hT.len
    refine ⟨_, rfl, a, ws, rfl, .inr (SqT.of hA), ?_⟩
    refine ⟨_, rfl, _, rfl, by omega, by omega, fun D hD => lc_range (n := ws.length) (fun i H2 => Same H H2 ∧ ∃ us, H2 D = some (.lst us) ∧ TupsAt H2 us ((heirs es).take i))
      ⟨same_new hD, [], upd_same, .nil⟩ ?_ ?_⟩
    · rintro i H2 hi ⟨s2, us, hDu, hU⟩
      have hlen : (heirs es).length = ws.length := by
        unfold heirs
        rw [List.length_map, List.length_range, hbl]
      have hrow : (heirs es)[i]? = some (heirRow es ws.length i) := by
        unfold heirs
        rw [List.getElem?_map, List.getElem?_range (by omega), hbl]
        rfl
      have husl : us.length = i := by
        rw [hU.len, List.length_take, hlen]
        omega
      refine ⟨rfl, _, rfl, _, rfl, by omega, by omega, fun D2 hD2 => lc_range (n := ws.length) (fun j H3 => Same H2 H3 ∧ H3 D2 = some (.lst ((((List.range ws.length).take j).filter fun h => (es.getD h []).contains i).map natV)))
        ⟨same_new hD2, upd_same⟩ ?_ ?_⟩
      · rintro j H3 hj ⟨s3, hD3⟩
        obtain ⟨l, hl⟩ : ∃ l, es[j]? = some l := ⟨_, List.getElem?_eq_getElem (by omega)⟩
        have hgd : es.getD j [] = l := by
          rw [List.getD_eq_getElem?_getD, hl]
          rfl
        obtain ⟨t, et, ht⟩ := hT.get hl
        have e0 : (0 : Int) + (i : Int) = (i : Int) := Int.zero_add _
        refine ⟨rfl, _, rfl, _, rfl, _, rfl, a, ws, (0 : Int) + (j : Int), _, rfl, rfl, SqT.of (s3 _ _ (s2 _ _ hA)), by rw [Int.zero_add]; exact atI_nat et, t, _, rfl, .inr (SqT.of (s3 _ _ (s2 _ _ ht))), rfl, flat_nats l, _, rfl, ?_⟩
        have ein : inV (.int ((0 : Int) + (i : Int))) (l.map natV) = l.contains i := by
          rw [e0]
          exact inV_nat i l
        show (if inV (.int ((0 : Int) + (i : Int))) (l.map natV) = true then _ else _)
        rw [ein]
        have hm := heirRow_more es ws.length i j hj
        rw [hgd] at hm
        cases hb : l.contains i with
        | true =>
          rw [hb, if_pos rfl] at hm
          rw [if_pos rfl]
          refine ⟨_, rfl, _, hD3, ?_, same_upd s3 hD2, ?_⟩
          · rw [List.length_map]
            refine Nat.lt_of_le_of_lt (List.length_filter_le _ _) ?_
            rw [List.length_take]
            show _ < 2 ^ 24
            omega
          · rw [hm, List.map_append, upd_same, Int.zero_add]
            rfl
        | false =>
          rw [hb, if_neg (by decide), List.append_nil] at hm
          rw [if_neg (by decide)]
          exact ⟨s3, by rw [hm]; exact hD3⟩
      · rintro H3 ⟨s3, hD3⟩
        rw [List.take_of_length_le (by rw [List.length_range]; exact Nat.le_refl _)] at hD3
        refine ⟨D2, _, rfl, .inl ⟨SqL.of hD3, fun T hT' => ?_⟩⟩
        have sT := s3.trans (same_new (o := .tup ((heirRow es ws.length i).map natV)) hT')
        refine ⟨us, sT _ _ hDu, by rw [husl]; show i < 2 ^ 24; omega, same_upd (s2.trans sT) hD, us ++ [.ref T], upd_same, ?_⟩
        have keep : ∀ b xs, upd H3 T (.tup ((heirRow es ws.length i).map natV)) b = some (.tup xs) → upd (upd H3 T (.tup ((heirRow es ws.length i).map natV))) D (.lst (us ++ [.ref T])) b = some (.tup xs) := tups_upd (sT _ _ hDu) fun xs z => by cases z
        rw [List.take_add_one, hrow, Option.toList_some]
        exact ((hU.same sT).mono keep).app (.cons ⟨T, rfl, keep _ _ upd_same⟩ .nil)
    · rintro H2 ⟨s2, us, hDu, hU⟩
      rw [List.take_of_length_le (by unfold heirs; rw [List.length_map, List.length_range, hbl]; exact Nat.le_refl _)] at hU
      refine ⟨D, us, rfl, .inl ⟨SqL.of hDu, fun p hp => ?_⟩⟩
      exact k _ p us (s2.trans (same_new hp)) upd_same (hU.same (same_new hp))
end
end K16

set_option maxRecDepth 100000
set_option maxHeartbeats 4000000
namespace K16
open PySem PySem.Spec PyProof.Rows L2 Kw
def inClass (st : Stmt) (j : Nat) : Stmt := match st with
  | .ClassDef (body := b) .. => b.getD j (.Pass ⟨0, 0, 0, 0⟩)
  | _ => .Pass ⟨0, 0, 0, 0⟩
abbrev FnM (K : PySem.W.Frag) (x qual : Str) (st : Stmt) (f : Addr) (fd : FuncData) : Prop := FunD K x qual (defArgs st) (defBody st) (defScope st) [] [] f fd
section
variable {P : Program} {w : World} {K : PySem.W.Frag} {mg : Str → Option Value} {base : Heap} {f C : Addr} {fd : FuncData}
theorem sc_badWorld : FnScope ["self", "index", "what"] ["self", "index", "what"] (defScope (inClass (top 3) 0)) := ⟨rfl, rfl, rfl, by decide +kernel, rfl, by decide +kernel, by decide +kernel⟩
theorem ok_badWorld (F : FnM K "__init__" "BadWorld.__init__" (inClass (top 3) 0) f fd) (T : ErrX K mg "BadWorld" ["index", "what"] C f) : FnOk P w K mg base CX0 1 f fd ["self", "index", "what"] (spR C ["index", "what"]) ∧ Binds K fd ["self", "index", "what"] [] := by
  refine ⟨F.ok sc_badWorld (fun vs H Q E h => ?_) (fun cdv A outer s H vs Q E hr h => ?_), F.bindsN fun _ _ _ _ _ _ us hl => match us, hl with | [_, _, _], _ => rfl⟩
  · obtain ⟨a, xs, rfl, hl, _⟩ := h
    exact congrArg Nat.succ hl
  · obtain ⟨a, xs, rfl, hl, ha, k⟩ := h
    match xs, hl with
    | [x1, x2], _ =>
      refine ⟨_, PSs.nox (pss_cons (ps_ost (pv 0) (pv 1)) (pss_one (ps_ost (pv 0) (pv 2)))), ?_⟩
      refine ⟨_, rfl, _, rfl, a, C, rfl, T.oex, T.no _ (List.mem_of_getElem? (i := 0) rfl), .inl ⟨ha, fun dx hd ne => ?_⟩⟩
      have A1 := @upd_same (upd H dx (exd dx [("index", x1)])) a (exo a C (some dx))
      have D1 : upd (upd H dx (exd dx [("index", x1)])) a (exo a C (some dx)) dx = some (exd dx [("index", x1)]) := upB ne upd_same
      have B1 : ∀ b o, b ≠ a → H b = some o → upd (upd H dx (exd dx [("index", x1)])) a (exo a C (some dx)) b = some o := fun b o hb e => upB hb (upB (ne_of_none e hd) e)
      generalize hG1 : upd (upd H dx (exd dx [("index", x1)])) a (exo a C (some dx)) = G1 at A1 D1 B1 ⊢
      refine ⟨_, rfl, _, rfl, a, C, rfl, T.oex, T.no _ (List.mem_of_getElem? (i := 1) rfl), .inr ⟨dx, [("index", x1)], A1, D1, (by show 1 ≤ 900; decide), ?_⟩⟩
      exact k dx _ hd ne (upB ne.symm A1) upd_same fun b o hb e => upB (ne_of_none e hd) (B1 b o hb e)
end
end K16

set_option maxRecDepth 100000
set_option maxHeartbeats 4000000
namespace K16
open PySem PySem.Spec PyProof.Rows L2 Kw
/-- bases, own fields, own methods, as they were given -/
abbrev Ent := List Nat × Nat × List Nat
def sortN (l : List Nat) : List Nat := (List.range 6).filter fun m => l.contains m
/-- a right entry of class c -/
def EntryOk (H : Hp) (e : V) (c : Nat) (d : Ent) : Prop := ∃ a ab am, e = .ref a ∧ SeqAt H a [.ref ab, natV d.2.1, .ref am] ∧ SeqAt H ab (d.1.map natV) ∧ SeqAt H am (d.2.2.map natV) ∧
  (d.1.Nodup ∧ d.1.length ≤ 12 ∧ ∀ b ∈ d.1, b < c) ∧ d.2.1 ≤ 3 ∧ d.2.2.Nodup ∧ d.2.2.length ≤ 3 ∧ ∀ m ∈ d.2.2, m < 6
theorem EntryOk.same {H H' : Hp} {e : V} {c : Nat} {d : Ent} (h : EntryOk H e c d) (s : Same H H') : EntryOk H' e c d := by
  obtain ⟨a, ab, am, h1, h2, h3, h4, h5⟩ := h
  exact ⟨a, ab, am, h1, h2.same s, h3.same s, h4.same s, h5⟩
theorem EntryIs.same {H H' : Hp} {e : V} {c : Int} {o : Option Str} (h : EntryIs H e c o) (s : Same H H') : EntryIs H' e c o := by
  rcases h with ⟨t, h1, h2⟩ | ⟨a, xs, h1, h2, h3⟩ | ⟨a, b, g, m, rb, nb, tg, rm, nm, h1, h2, h3, h4, h5, h6⟩
  · exact .inl ⟨t, h1.same s, h2⟩
  · exact .inr (.inl ⟨a, xs, h1, h2.same s, h3⟩)
  · exact .inr (.inr ⟨a, b, g, m, rb, nb, tg, rm, nm, h1, h2.same s, h3.same s, h4.same s, h5.same s, h6⟩)
theorem intOf_nats (l : List Nat) : (l.map natV).map intOf = l.map fun (n : Nat) => (n : Int) := by
  rw [List.map_map]
  rfl
theorem nodup_cast {l : List Nat} (h : l.Nodup) : (l.map fun (n : Nat) => (n : Int)).Nodup := by
  refine List.pairwise_map.mpr (h.imp fun z => ?_)
  intro e
  exact z (by omega)
theorem unlike_nats {l : List Nat} {m : Nat} (hn : l.Nodup) (hb : ∀ b ∈ l, b < m) : unlikeB (m : Int) (l.map natV) = true := by
  unfold unlikeB
  rw [intOf_nats, decide_eq_true (nodup_cast hn), Bool.and_true, List.all_eq_true]
  intro x hx
  obtain ⟨b, h1, rfl⟩ := List.mem_map.mp hx
  have := hb b h1
  show wholeB (.int 0) (.int ((m : Int) - 1)) (.int (b : Int)) = true
  unfold wholeB inLo inHi
  simp only [Bool.and_eq_true, decide_eq_true_eq]
  omega
theorem nats_ty {H : Hp} (l : List Nat) : ∀ y ∈ l.map natV, ∃ t, Ty0 H y t := fun y hy => by
  obtain ⟨b, h1, rfl⟩ := List.mem_map.mp hy
  exact ⟨_, .int _⟩
theorem EntryOk.is {H : Hp} {e : V} {c : Nat} {d : Ent} (h : EntryOk H e c d) : EntryIs H e (c : Int) none := by
  obtain ⟨a, ab, am, rfl, h2, h3, h4, ⟨h5, h6, h7⟩, h8, h9, h10, h11⟩ := h
  refine .inr (.inr ⟨a, .ref ab, natV d.2.1, .ref am, true, d.1.length, _, true, d.2.2.length, rfl, h2, .inr ⟨ab, _, rfl, h3, by rw [List.length_map]; omega, nats_ty _, (unlike_nats h5 h7).symm, by rw [List.length_map]⟩, .int _, .inr ⟨am, _, rfl, h4, by rw [List.length_map]; omega, nats_ty _, (unlike_nats (m := 6) h9 h11).symm, by rw [List.length_map]⟩, ?_⟩)
  have hw : wholeB (.int 0) (.int 3) (natV d.2.1) = true := by
    show wholeB (.int 0) (.int 3) (.int (d.2.1 : Int)) = true
    unfold wholeB inLo inHi
    simp only [Bool.and_eq_true, decide_eq_true_eq]
    omega
  unfold entryWord
  rw [if_neg (by decide), hw, if_neg (by decide), if_neg (by decide), if_neg (by omega)]
theorem sortN_one {l : List Nat} (hn : l.Nodup) (hb : ∀ m ∈ l, m < 6) {ys : List Int} (p : ys.Perm (l.map fun (n : Nat) => (n : Int))) (hs : ys.Pairwise (· ≤ ·)) : ys.map V.int = (sortN l).map natV := by
  have up : (sortN l).Pairwise (· < ·) := List.Pairwise.filter _ List.pairwise_lt_range
  refine sorted_one p hs hn (up_nodup up) (fun x => ?_) up
  unfold sortN
  rw [List.mem_filter, List.mem_range]
  constructor
  · intro h
    exact ⟨hb x h, by simpa using h⟩
  · rintro ⟨_, h⟩
    simpa using h
/-- an entry as a world keeps it -/
def EntAt (H : Hp) (t : Addr) (d : Ent) : Prop := ∃ tb tm, H t = some (.tup [.ref tb, natV d.2.1, .ref tm]) ∧ H tb = some (.tup (d.1.map natV)) ∧ H tm = some (.tup ((sortN d.2.2).map natV))
def EntsAt (H : Hp) : List V → List Ent → Prop := Paired fun v d => ∃ t, v = .ref t ∧ EntAt H t d
def TupK (H H' : Hp) : Prop := ∀ b xs, H b = some (.tup xs) → H' b = some (.tup xs)
theorem EntAt.mono {H H' : Hp} {t : Addr} {d : Ent} (h : EntAt H t d) (k : TupK H H') : EntAt H' t d := by
  obtain ⟨tb, tm, h1, h2, h3⟩ := h
  exact ⟨tb, tm, k _ _ h1, k _ _ h2, k _ _ h3⟩
theorem EntsAt.mono {H H' : Hp} (k : TupK H H') : ∀ {vs : List V} {ds : List Ent}, EntsAt H vs ds → EntsAt H' vs ds
  | [], [], _ => .nil
  | _ :: _, _ :: _, .cons ⟨t, e, h⟩ r => .cons ⟨t, e, h.mono k⟩ (EntsAt.mono k r)
theorem EntsAt.len {H : Hp} {vs : List V} {ds : List Ent} (h : EntsAt H vs ds) : vs.length = ds.length := Paired.length h
theorem EntsAt.get {H : Hp} : ∀ {vs : List V} {ds : List Ent} {i : Nat} {d : Ent}, EntsAt H vs ds → ds[i]? = some d → ∃ t, vs[i]? = some (.ref t) ∧ EntAt H t d
  | [], [], _, _, _, h => by simp at h
  | _ :: _, _ :: _, 0, _, .cons ⟨t, e1, h⟩ _, e => by
    obtain rfl := Option.some.inj e
    exact ⟨t, by rw [e1]; rfl, h⟩
  | _ :: _, _ :: _, i + 1, _, .cons _ r, e => EntsAt.get (i := i) r e
theorem EntsAt.app {H : Hp} : ∀ {vs us : List V} {ls ms : List Ent}, EntsAt H vs ls → EntsAt H us ms → EntsAt H (vs ++ us) (ls ++ ms)
  | [], _, [], _, _, h => h
  | _ :: _, _, _ :: _, _, .cons h r, s => .cons h (EntsAt.app r s)
theorem Same.tupK {H H' : Hp} (s : Same H H') : TupK H H' := fun b xs e => s b _ e
/-- all but the object at p stays -/
def Oth (p : Addr) (H H' : Hp) : Prop := ∀ b o, b ≠ p → H b = some o → H' b = some o
theorem Oth.trans {p : Addr} {H H1 H2 : Hp} (a : Oth p H H1) (b : Oth p H1 H2) : Oth p H H2 := fun c o n e => b c o n (a c o n e)
theorem Oth.of {p : Addr} {H H1 : Hp} (s : Same H H1) : Oth p H H1 := fun c o _ e => s c o e
theorem Oth.upd {p : Addr} {H H1 : Hp} {o : HO} (s : Oth p H H1) : Oth p H (upd H1 p o) := fun c u n e => upB n (s c u n e)
theorem Oth.tupK {p : Addr} {H H' : Hp} {C dx : Addr} {fs : List (Str × V)} (s : Oth p H H') (h : H p = some (.ins C dx fs)) : TupK H H' := fun b xs e => s b _ (fun z => by
  rw [z, h] at e
  cases e) e
/-- a world as an object -/
def WorldFs (ac ab ao am ae ah : Addr) : List (Str × V) := [("classes", .ref ac), ("bases", .ref ab), ("owns", .ref ao), ("methods", .ref am), ("elders", .ref ae), ("heirs", .ref ah)]
def WorldAt (H : Hp) (p C : Addr) (ds : List Ent) : Prop := ∃ dx ac ab ao am ae ah cs bs ms es hs, H p = some (.ins C dx (WorldFs ac ab ao am ae ah)) ∧ H ac = some (.tup cs) ∧ EntsAt H cs ds ∧
  H ab = some (.tup bs) ∧ TupsAt H bs (ds.map (·.1)) ∧ H ao = some (.tup ((ds.map (·.2.1)).map natV)) ∧ H am = some (.tup ms) ∧ TupsAt H ms (ds.map fun d => sortN d.2.2) ∧
  H ae = some (.tup es) ∧ TupsAt H es (elders (ds.map (·.1))) ∧ H ah = some (.tup hs) ∧ TupsAt H hs (heirs (elders (ds.map (·.1))))
end K16

set_option maxRecDepth 100000
set_option maxHeartbeats 8000000
namespace K16
open PySem PySem.Spec PyProof.Rows L2 Kw
structure ClsWorld (K : PySem.W.Frag) (mg : Str → Option Value) (C : Addr) : Prop where
  cl : Cls K C
  no : ∀ f ∈ (["classes", "bases", "owns", "methods", "elders", "heirs"] : List Str), NoAttr K C f
section
variable {P : Program} {w : World} {K : PySem.W.Frag} {mg : Str → Option Value} {base : Heap} {f fS fW fU fE fL fH fB Cb C : Addr} {fd fdS fdW fdU fdE fdL fdH fdB : FuncData}
def spWorld (C Cb : Addr) : Sp := fun vs H Q E => ∃ (p dx : Addr) (x : V), vs = [.ref p, x] ∧ H p = some (.ins C dx []) ∧
  ((((∃ t, Ty0 H x t ∧ seqT t = false) ∨ ∃ a es, x = .ref a ∧ SeqAt H a es ∧ (es.length = 0 ∨ 12 < es.length)) ∧ ∀ d H', Same H H' → H' d = some (.xd (errF ["index", "what"] [.int 0, .str "many"])) → E (.ref Cb) (some d) H') ∨
   ∃ a es ds, x = .ref a ∧ SeqAt H a es ∧ es.length ≠ 0 ∧ es.length ≤ 12 ∧ ds.length ≤ es.length ∧ (∀ (i : Nat) (d : Ent), ds[i]? = some d → ∃ e, es[i]? = some e ∧ EntryOk H e i d) ∧
     ((∃ e word, es[ds.length]? = some e ∧ EntryIs H e (ds.length : Int) (some word) ∧ ∀ d H', Same H H' → H' d = some (.xd (errF ["index", "what"] [.int (ds.length : Int), .str word])) → E (.ref Cb) (some d) H') ∨
      (ds.length = es.length ∧ ∀ H', Oth p H H' → WorldAt H' p C ds → Q .non H')))
/-- enumerate over a list or a tuple that stands -/
theorem for_enumS {a : Addr} {xs : List V} {g : TG} {tb : TS} {D : Ends} {σ : L2.St} {H H0 : Hp} {j : Nat} (hj : σ[j]? = some (some (.ref a))) (hA : SeqAt H0 a xs) (s0 : Same H0 H) (Pv : Nat → L2.St → Hp → Prop) (h0 : Pv 0 σ H) (keep : ∀ i σ' H', Pv i σ' H' → Same H0 H')
    (hs : ∀ i x σ H T, xs[i]? = some x → Pv i σ H → H T = none → g (.ref T) σ (upd H T (.tup [.int (i : Nat), x])) fun σ2 H2 => tb { D with nx := Pv (i + 1), ct := Pv (i + 1), bk := D.nx } σ2 H2) (hd : ∀ σ H, Pv xs.length σ H → D.nx σ H) :
    tFor (fun σ H R => iEnum K (tCons (tVar j) tNil) σ H R ∨ iEnumT K (tCons (tVar j) tNil) σ H R) g tb D σ H := by
  rcases hA with hA | hA
  · exact .inl ⟨_, hj, a, xs, rfl, SqL.of (s0 _ _ hA), for_enumL Pv h0 (fun i σ H' _ h => SqL.of (keep i σ H' h _ _ hA)) hs hd⟩
  · exact .inr ⟨_, hj, a, xs, rfl, SqT.of (s0 _ _ hA), for_enumT Pv h0 (fun i σ H' _ h => SqT.of (keep i σ H' h _ _ hA)) hs hd⟩
theorem tup_q {H : Hp} {a : Addr} {xs : List V} {Q : VK} (hA : SeqAt H a xs) (q : ∀ p H', Same H H' → H' p = some (.tup xs) → Q (.ref p) H') :
    rTupOf K [V.ref a] H Q := by
  refine ⟨a, xs, rfl, ?_⟩
  rcases hA with hA | hA
  · exact .inl ⟨SqL.of hA, fun l hl => q l _ (same_new hl) upd_same⟩
  · exact .inr ⟨SqT.of hA, q a H (Same.refl H) hA⟩
/-- a column of the entries, as a new list -/
theorem col_q {x0 x1 x3 x4 x5 x6 x7 x8 : Option V} {R : Addr} {us : List V} {ds : List Ent} {H : Hp} {k : Int} {Q : VK} (ColP : Hp → V → Ent → Prop) (hmono : ∀ H H' v d, TupK H H' → ColP H v d → ColP H' v d)
    (hcol : ∀ H t d, EntAt H t d → ∃ xs v, H t = some (.tup xs) ∧ atI xs k = some v ∧ ColP H v d) (hR : H R = some (.lst us)) (hE : EntsAt H us ds) (h12 : ds.length ≤ 12)
    (q : ∀ D H' vs, Same H H' → H' D = some (.lst vs) → Paired (ColP H') vs ds → Q (.ref D) H') :
    tLc (iList K (tVar 2)) (gName 4) tYes (tOp (rIxT K) (tVar 4) (tC (.int k))) [4] [x0, x1, some (.ref R), x3, x4, x5, x6, x7, x8] H Q := by
  have hmonoP : ∀ {H H' : Hp}, TupK H H' → ∀ {vs : List V} {ds : List Ent}, Paired (ColP H) vs ds → Paired (ColP H') vs ds := fun kk => by
    intro vs ds h
    induction h with
    | nil => exact .nil
    | cons z _ ih => exact .cons (hmono _ _ _ _ kk z) ih
  have app1 : ∀ {H : Hp} {vs : List V} {ds : List Ent} {v : V} {d : Ent}, Paired (ColP H) vs ds → ColP H v d → Paired (ColP H) (vs ++ [v]) (ds ++ [d]) := fun h z => by
    induction h with
    | nil => exact .cons z .nil
    | cons y _ ih => exact .cons y ih
  refine ⟨_, rfl, R, rfl, ⟨_, SqL.of hR⟩, fun D hD => lc_list (K := K) (a := R) (xs := us) (fun i H2 => Same H H2 ∧ ∃ vs, H2 D = some (.lst vs) ∧ Paired (ColP H2) vs (ds.take i)) ⟨same_new hD, [], upd_same, .nil⟩ (fun i H2 _ h => SqL.of (h.1 _ _ hR)) ?_ ?_⟩
  · rintro i y H2 hi ⟨s2, vs, hDv, hP⟩
    have hil : i < ds.length := by
      rw [← hE.len]
      exact (List.getElem?_eq_some_iff.mp hi).1
    obtain ⟨d, hd⟩ : ∃ d, ds[i]? = some d := ⟨_, List.getElem?_eq_getElem hil⟩
    obtain ⟨t, et, ht⟩ := hE.get hd
    obtain rfl : V.ref t = y := Option.some.inj (et.symm.trans hi)
    obtain ⟨xs, v, h1, h2, h3⟩ := hcol H2 t d (ht.mono (Same.tupK s2))
    have hvl : vs.length = i := by
      rw [Paired.length hP, List.length_take]
      omega
    have kk : TupK H2 (upd H2 D (.lst (vs ++ [v]))) := tups_upd hDv fun xs z => by cases z
    refine ⟨rfl, _, rfl, t, xs, k, v, rfl, rfl, SqT.of h1, h2, vs, hDv, by (rw [hvl]; show i < 2 ^ 24; omega), same_upd s2 hD, vs ++ [v], upd_same, ?_⟩
    rw [List.take_add_one, hd, Option.toList_some]
    exact app1 (hmonoP kk hP) (hmono _ _ _ _ kk h3)
  · rintro H2 ⟨s2, vs, hDv, hP⟩
    rw [hE.len, List.take_length] at hP
    exact q D H2 vs s2 hDv hP
def ColB (H : Hp) (v : V) (d : Ent) : Prop := ∃ t, v = .ref t ∧ H t = some (.tup (d.1.map natV))
def ColO (_ : Hp) (v : V) (d : Ent) : Prop := v = natV d.2.1
def ColM (H : Hp) (v : V) (d : Ent) : Prop := ∃ t, v = .ref t ∧ H t = some (.tup ((sortN d.2.2).map natV))
theorem colB_tups {H : Hp} {vs : List V} {ds : List Ent} (h : Paired (ColB H) vs ds) : TupsAt H vs (ds.map (·.1)) := by
  induction h with
  | nil => exact .nil
  | cons z _ ih => exact .cons z ih
theorem colM_tups {H : Hp} {vs : List V} {ds : List Ent} (h : Paired (ColM H) vs ds) : TupsAt H vs (ds.map fun d => sortN d.2.2) := by
  induction h with
  | nil => exact .nil
  | cons z _ ih => exact .cons z ih
theorem colO_nats {H : Hp} {vs : List V} {ds : List Ent} (h : Paired (ColO H) vs ds) : vs = (ds.map (·.2.1)).map natV := by
  induction h with
  | nil => rfl
  | cons z _ ih => rw [z, ih]; rfl
/-- a reading kept as it is said -/
structure Box (p : Prop) : Prop where
  h : p
def tBox (t : TE) : TE := fun σ H Q => Box (t σ H Q)
theorem pe_box {X : Cx} {e : Expr} {t : TE} (h : PE X e t) : PE X e (tBox t) := ⟨fun pins s σ H Q I k => h.run pins s σ H Q I k.h⟩
theorem sc_world : FnScope ["self", "classes", "entries", "c", "entry", "what", "bases", "fields", "methods"] ["self", "classes"] (defScope (inClass (top 39) 0)) := ⟨rfl, rfl, rfl, by decide +kernel, rfl, by decide +kernel, by decide +kernel⟩
theorem ok_world (F : FnM K "__init__" "World.__init__" (inClass (top 39) 0) f fd) (B : Fr mg) (Z : Cst mg) (TC : ClsWorld K mg C) (FS : FnP K "is_sequence" 11 fS fdS) (mS : mg "is_sequence" = some (.ref fS)) (FW : FnDf K "is_whole" 12 [.non, .non] fW fdW) (mW : mg "is_whole" = some (.ref fW))
    (FU : FnP K "is_unlike_row" 13 fU fdU) (mU : mg "is_unlike_row" = some (.ref fU)) (FE : FnP K "entry_fault" 40 fE fdE) (mE : mg "entry_fault" = some (.ref fE)) (FL : FnP K "elder_rows" 41 fL fdL) (mL : mg "elder_rows" = some (.ref fL))
    (FH : FnP K "heir_rows" 42 fH fdH) (mH : mg "heir_rows" = some (.ref fH)) (FB : FnM K "__init__" "BadWorld.__init__" (inClass (top 3) 0) fB fdB) (TB : ErrX K mg "BadWorld" ["index", "what"] Cb fB) :
    FnOk P w K mg base (L2.CX P w) 4 f fd ["self", "classes"] (spWorld C Cb) := by
  have GS : FnOk P w K mg base CX0 1 fS fdS ["thing"] spIsSeq := ok_isSeq FS B
  have GE : FnOk P w K mg base CX0 3 fE fdE ["entry", "c"] spEntry := ok_entry FE B Z FS mS FW mW FU mU
  have GL : FnOk P w K mg base CX0 1 fL fdL ["bases"] spElders := ok_elders FL B
  have GH : FnOk P w K mg base CX0 1 fH fdH ["elders"] spHeirs := ok_heirs FH B
  obtain ⟨GB, bB⟩ : FnOk P w K mg base CX0 1 fB fdB ["self", "index", "what"] (spR Cb ["index", "what"]) ∧ Binds K fdB ["self", "index", "what"] [] := ok_badWorld FB TB
  have bS : L2.Binds K fdS ["thing"] [] := FS.bindsN fun _ _ _ _ _ _ us hl => match us, hl with | [_], _ => rfl
  have bE : L2.Binds K fdE ["entry", "c"] [] := FE.bindsN fun _ _ _ _ _ _ us hl => match us, hl with | [_, _], _ => rfl
  have bL : L2.Binds K fdL ["bases"] [] := FL.bindsN fun _ _ _ _ _ _ us hl => match us, hl with | [_], _ => rfl
  have bH : L2.Binds K fdH ["elders"] [] := FH.bindsN fun _ _ _ _ _ _ us hl => match us, hl with | [_], _ => rfl
  obtain ⟨tc, zc⟩ := Z.mc
  refine F.ok sc_world (fun vs H Q E h => ?_) (fun cdv A outer s H vs Q E hr h => ?_)
  · obtain ⟨p, dx, x, rfl, _⟩ := h
    rfl
  · obtain ⟨p, dx, x, rfl, hp, h⟩ := h
    refine ⟨_, (pss_cons (ps_if (PW.pt (pw_or (pt_not (pt_val (pe_call GS (hr.mono (by decide)) (by rfl) mS FS.kp bS .nil pass0 (pa_cons (pv 1) pa_nil)))) (pw_or (pt_cmpR op_eq (pe_callB call_len_seq (by rfl) B.len PySem.boot_len (pa_cons (pv 1) pa_nil)) pe_int (nomark _)) (pw_or1 (pt_cmpR op_gt (pe_callB call_len_seq (by rfl) B.len PySem.boot_len (pa_cons (pv 1) pa_nil)) (pe_glob (v := .int 12) (by rfl) zc ⟨_, rfl⟩) (nomark _))))))
        (pss_one (ps_raise rfl (takes_of rfl rfl rfl rfl) (pmk_oex TB.oex TB.ini TB.inT GB (hr.mono (by decide)) bB .nil pass0 (by rfl) TB.mg (pa_cons pe_int (pa_cons pe_str pa_nil))))) pss_nil)
      (pss_cons (ps_set (i := 2) sc_world.nd rfl (Or.inl rfl) (pe_lst pa_nil))
      (pss_cons (ps_for (passes_of rfl) rfl (pi_or (pi_enum (by rfl) B.enumerate (pa_cons (pv 1) pa_nil)) (pi_enumT (by rfl) B.enumerate (pa_cons (pv 1) pa_nil))) (pg_tup (by rfl) (pgs_cons (pg_name (i := 3) sc_world.nd rfl (Or.inl rfl)) (pgs_cons (pg_name (i := 4) sc_world.nd rfl (Or.inl rfl)) pgs_nil)))
        (pss_cons (ps_set (i := 5) sc_world.nd rfl (Or.inl rfl) (pe_call GE hr (by rfl) mE FE.kp bE .nil pass0 (pa_cons (pv 4) (pa_cons (pv 3) pa_nil))))
        (pss_cons (ps_if (pt_cmpR op_notN (pv 5) pe_non (nomark _)) (pss_one (ps_raise rfl (takes_of rfl rfl rfl rfl) (pmk_oex TB.oex TB.ini TB.inT GB (hr.mono (by decide)) bB .nil pass0 (by rfl) TB.mg (pa_cons (pv 3) (pa_cons (pv 5) pa_nil))))) pss_nil)
        (pss_cons (ps_asg (pv 4) (pg_or (pg_unl (by rfl) (pgs_cons (pg_name (i := 6) sc_world.nd rfl (Or.inl rfl)) (pgs_cons (pg_name (i := 7) sc_world.nd rfl (Or.inl rfl)) (pgs_cons (pg_name (i := 8) sc_world.nd rfl (Or.inl rfl)) pgs_nil)))) (pg_tup (by rfl) (pgs_cons (pg_name (i := 6) sc_world.nd rfl (Or.inl rfl)) (pgs_cons (pg_name (i := 7) sc_world.nd rfl (Or.inl rfl)) (pgs_cons (pg_name (i := 8) sc_world.nd rfl (Or.inl rfl)) pgs_nil))))))
        (pss_one (ps_expr (pe_bm PySem.F.plainAttrs_list PySem.F.slot_list_append PySem.F.type_list_append mt_append (pv 2) (pa_cons (pe_tup (pa_cons (pe_callTy (T := "tuple") (r := rTupOf K) (call_tup (X := _)) (by rfl) B.tuple (by decide +kernel) (pa_cons (pv 6) pa_nil)) (pa_cons (pv 7) (pa_cons (pe_callTy (T := "tuple") (r := rTupOf K) (call_tup (X := _)) (by rfl) B.tuple (by decide +kernel) (pa_cons (pe_callB call_sortedSI (by rfl) B.sorted (by decide +kernel) (pa_cons (pv 8) pa_nil)) pa_nil)) pa_nil)))) pa_nil))))))))
      (pss_cons (ps_fld (pv 0) (pe_callTy (T := "tuple") (r := rTupOf K) (call_tup (X := _)) (by rfl) B.tuple (by decide +kernel) (pa_cons (pv 2) pa_nil)) rfl)
      (pss_cons (ps_fld (pv 0) (pe_callTy (T := "tuple") (r := rTupOf K) (call_tup (X := _)) (by rfl) B.tuple (by decide +kernel) (pa_cons (pe_box <| pe_lc (own := [("entry", 4)]) (g := gName 4) (tt := tYes) rfl sc_world.nd (pi_list (pv 2)) (blkOk_by (by rfl)) (fun _ _ _ _ _ => pg_name (i := 4) sc_world.nd rfl (Or.inl rfl)) (fun _ _ _ _ _ => pts_nil) (fun _ _ _ _ _ => pe_ix (r := rIxT K) ix_tup (pv 4) pe_int (fun _ _ => rfl))) pa_nil)) rfl)
      (pss_cons (ps_fld (pv 0) (pe_callTy (T := "tuple") (r := rTupOf K) (call_tup (X := _)) (by rfl) B.tuple (by decide +kernel) (pa_cons (pe_box <| pe_lc (own := [("entry", 4)]) (g := gName 4) (tt := tYes) rfl sc_world.nd (pi_list (pv 2)) (blkOk_by (by rfl)) (fun _ _ _ _ _ => pg_name (i := 4) sc_world.nd rfl (Or.inl rfl)) (fun _ _ _ _ _ => pts_nil) (fun _ _ _ _ _ => pe_ix (r := rIxT K) ix_tup (pv 4) pe_int (fun _ _ => rfl))) pa_nil)) rfl)
      (pss_cons (ps_fld (pv 0) (pe_callTy (T := "tuple") (r := rTupOf K) (call_tup (X := _)) (by rfl) B.tuple (by decide +kernel) (pa_cons (pe_box <| pe_lc (own := [("entry", 4)]) (g := gName 4) (tt := tYes) rfl sc_world.nd (pi_list (pv 2)) (blkOk_by (by rfl)) (fun _ _ _ _ _ => pg_name (i := 4) sc_world.nd rfl (Or.inl rfl)) (fun _ _ _ _ _ => pts_nil) (fun _ _ _ _ _ => pe_ix (r := rIxT K) ix_tup (pv 4) pe_int (fun _ _ => rfl))) pa_nil)) rfl)
      (pss_cons (ps_fld (pv 0) (pe_call GL (hr.mono (by decide)) (by rfl) mL FL.kp bL .nil pass0 (pa_cons (pe_fld (pv 0) rfl) pa_nil)) rfl)
      (pss_one (ps_fld (pv 0) (pe_call GH (hr.mono (by decide)) (by rfl) mH FH.kp bH .nil pass0 (pa_cons (pe_fld (pv 0) rfl) pa_nil)) rfl)))))))))), ?_⟩
    rcases h with ⟨h, k⟩ | ⟨a, es, ds, rfl, hA, hn0, hn12, hdl, hok, h⟩
    · rcases h with ⟨t, ty, hs⟩ | ⟨a, es, rfl, hA, hlen⟩
      · refine ⟨_, rfl, x, t, rfl, ty, fun H1 s1 => ⟨_, rfl, ?_⟩⟩
        rw [hs]
        exact iteT (raise_q rfl (by decide) fun d H' s2 _ e => k d H' (s1.trans s2) e)
      · obtain ⟨t, ty, hseq⟩ := hA.ty
        refine ⟨_, rfl, _, t, rfl, ty, fun H1 s1 => ⟨_, rfl, ?_⟩⟩
        rw [hseq]
        refine iteF ⟨_, rfl, a, es, rfl, (hA.same s1).sq, rfl, _, rfl, ?_⟩
        by_cases q : es.length = 0
        · have z : decide (V.int (es.length : Int) = V.int 0) = true := decide_eq_true (by rw [q]; rfl)
          rw [z]
          exact iteT (raise_q rfl (by decide) fun d H' s2 _ e => k d H' (s1.trans s2) e)
        · have z : decide (V.int (es.length : Int) = V.int 0) = false := decide_eq_false fun e => q (by have := V.int.inj e; omega)
          rw [z]
          refine iteF ⟨_, rfl, a, es, rfl, (hA.same s1).sq, _, _, rfl, rfl, _, rfl, ?_⟩
          rw [decide_eq_true (show (12 : Int) < (es.length : Int) by omega)]
          exact iteT (raise_q rfl (by decide) fun d H' s2 _ e => k d H' (s1.trans s2) e)
    · obtain ⟨t, ty, hseq⟩ := hA.ty
      refine ⟨_, rfl, _, t, rfl, ty, fun H1 s1 => ⟨_, rfl, ?_⟩⟩
      rw [hseq]
      refine iteF ⟨_, rfl, a, es, rfl, (hA.same s1).sq, rfl, _, rfl, ?_⟩
      rw [decide_eq_false (show ¬ V.int (es.length : Int) = V.int 0 from fun e => hn0 (by have := V.int.inj e; omega))]
      refine iteF ⟨_, rfl, a, es, rfl, (hA.same s1).sq, _, _, rfl, rfl, _, rfl, ?_⟩
      rw [decide_eq_false (show ¬ (12 : Int) < (es.length : Int) by omega)]
      refine iteF ⟨by decide, fun R hR => ?_⟩
      have hRH : H R = none := s1.free hR
      have sR : Same H (upd H1 R (.lst [])) := s1.trans (same_new hR)
      refine for_enumS (K := K) (a := a) (xs := es) rfl hA sR (fun i σ H' => Same H H' ∧ i ≤ ds.length ∧ ∃ us x3 x4 x5 x6 x7 x8, σ = [some (.ref p), some (.ref a), some (.ref R), x3, x4, x5, x6, x7, x8] ∧ H' R = some (.lst us) ∧ EntsAt H' us (ds.take i))
        ⟨sR, Nat.zero_le _, [], none, none, none, none, none, none, rfl, upd_same, .nil⟩ (fun i σ H' h => h.1) ?_ ?_
      · rintro i e σ H' T hi ⟨sH, hid, us, x3, x4, x5, x6, x7, x8, rfl, hRu, hE⟩ hT
        have hil : i < es.length := (List.getElem?_eq_some_iff.mp hi).1
        have sT : Same H' (upd H' T (.tup [.int (i : Nat), e])) := same_new hT
        refine ⟨T, _, rfl, SqT.of upd_same, rfl, _, _, rfl, _, _, rfl, rfl, ?_⟩
        generalize hG : upd H' T (.tup [.int (i : Nat), e]) = G at sT ⊢
        by_cases hd : i < ds.length
        · obtain ⟨d, hdi⟩ : ∃ d, ds[i]? = some d := ⟨_, List.getElem?_eq_getElem hd⟩
          obtain ⟨e', he', hok1⟩ := hok i d hdi
          obtain rfl : e = e' := Option.some.inj (hi.symm.trans he')
          have hokG := hok1.same (sH.trans sT)
          refine ⟨_, rfl, _, rfl, e, (i : Int), none, rfl, hokG.is, fun H2 s2 => ?_⟩
          have hok2 := hokG.same s2
          obtain ⟨ae, ab, am, rfl, hs, hb, hm, ⟨hb1, hb2, hb3⟩, hf, hm1, hm2, hm3⟩ := hok2
          have hRu2 : H2 R = some (.lst us) := s2 _ _ (sT _ _ hRu)
          have hE2 : EntsAt H2 us (ds.take i) := hE.mono (Same.tupK (Same.trans sT s2))
          have sH2 : Same H H2 := (sH.trans sT).trans s2
          refine ⟨_, rfl, rfl, _, rfl, iteF ?_⟩
          refine ⟨_, rfl, ?_⟩
          rcases hs with hs | hs
          case' inl => refine .inl ⟨ae, _, rfl, SqL.of hs, rfl, _, _, rfl, _, _, rfl, _, _, rfl, rfl, ?_⟩
          case' inr => refine .inr ⟨ae, _, rfl, SqT.of hs, rfl, _, _, rfl, _, _, rfl, _, _, rfl, rfl, ?_⟩
          all_goals
            refine ⟨_, rfl, .inl ⟨rfl, _, SqL.of hRu2⟩, _, rfl, ?_⟩
            refine tup_q hb fun tb H3 s3 hb' => ⟨_, rfl, _, rfl, am, d.2.2.map (fun (n : Nat) => (n : Int)), rfl, ?_, fun ys L perm srt hL => ?_⟩
            · have z := (hm.same s3).sq (K := K)
              rw [List.map_map]
              exact z
            · refine tup_q (.inl upd_same) fun tm H4 s4 hm' => ⟨by (show 3 ≤ sizeLine); decide, fun tt htt => ?_⟩
              have eys := sortN_one hm1 hm3 perm srt
              rw [eys] at hm'
              have sL := same_new (o := .lst (ys.map V.int)) hL
              have s34 : Same H3 H4 := sL.trans s4
              have s24 : Same H2 H4 := s3.trans s34
              have st := same_new (o := .tup [.ref tb, natV d.2.1, .ref tm]) htt
              have sA := s24.trans st
              refine ⟨R, us, _, rfl, rfl, sA _ _ hRu2, ?_, same_upd (sH2.trans sA) hRH, by omega, us ++ [.ref tt], _, _, _, _, _, _, rfl, upd_same, ?_⟩
              · rw [hE2.len, List.length_take]
                show _ < 2 ^ 24
                omega
              · have keep : TupK (upd H4 tt (.tup [.ref tb, natV d.2.1, .ref tm])) (upd (upd H4 tt (.tup [.ref tb, natV d.2.1, .ref tm])) R (.lst (us ++ [.ref tt]))) := tups_upd (sA _ _ hRu2) fun xs z => by cases z
                rw [List.take_add_one, hdi, Option.toList_some]
                exact (((hE2.mono (Same.tupK sA)).mono keep).app (.cons ⟨tt, rfl, tb, tm, keep _ _ upd_same, keep _ _ (st _ _ (s34 _ _ hb')), keep _ _ (st _ _ hm')⟩ .nil))
        · have hid' : i = ds.length := by omega
          subst hid'
          rcases h with ⟨e', word, he', his, k⟩ | ⟨hl, _⟩
          · obtain rfl : e = e' := Option.some.inj (hi.symm.trans he')
            refine ⟨_, rfl, _, rfl, e, (ds.length : Int), some word, rfl, his.same (sH.trans sT), fun H2 s2 => ?_⟩
            refine ⟨_, rfl, rfl, _, rfl, iteT ?_⟩
            exact ⟨_, rfl, _, rfl, raise_q rfl (by decide) fun d H' s3 _ e => k d H' (((sH.trans sT).trans s2).trans s3) e⟩
          · omega
      · rintro σ H0 ⟨sH, hid, us, x3, x4, x5, x6, x7, x8, rfl, hRu, hE⟩
        have hln : ds.length = es.length := by omega
        rcases h with ⟨e', word, he', _⟩ | ⟨_, k⟩
        · rw [hln, List.getElem?_eq_none (Nat.le_refl _)] at he'
          cases he'
        rw [List.take_of_length_le (by omega)] at hE
        have h12 : ds.length ≤ 12 := by omega
        have hp0 : H0 p = some (.ins C dx []) := sH _ _ hp
        have hRp : R ≠ p := fun z => by
          rw [z, hp0] at hRu
          cases hRu
        have O0 : Oth p H H0 := Oth.of sH
        -- classes
        refine ⟨_, rfl, ?_⟩
        refine tup_q (.inl hRu) fun pc G t1 hc => ⟨_, rfl, p, C, dx, [], rfl, t1 _ _ hp0, TC.cl, TC.no _ (List.mem_of_getElem? (i := 0) rfl), by simp, ?_⟩
        have O1 : Oth p H0 (upd G p (.ins C dx (putF "classes" (.ref pc) []))) := Oth.upd (Oth.of t1)
        have P1 : upd G p (.ins C dx (putF "classes" (.ref pc) [])) p = some (.ins C dx [("classes", .ref pc)]) := upd_same
        have C1 : upd G p (.ins C dx (putF "classes" (.ref pc) [])) pc = some (.tup us) := tups_upd (t1 _ _ hp0) (fun xs z => by cases z) _ _ hc
        generalize hN : upd G p (.ins C dx (putF "classes" (.ref pc) [])) = N1 at O1 P1 C1 ⊢
        have E1 : EntsAt N1 us ds := hE.mono (O1.tupK hp0)
        have R1 : N1 R = some (.lst us) := O1 _ _ hRp hRu
        clear hN t1 hc G
        -- bases
        refine Box.mk <| col_q (k := 0) ColB (fun H H' v d kk z => ?_) (fun H t d z => ?_) R1 E1 h12 fun D G0 bs t0 hD hB => ?_
        · obtain ⟨t, e1, e2⟩ := z
          exact ⟨t, e1, kk _ _ e2⟩
        · obtain ⟨tb, tm, z1, z2, z3⟩ := z
          exact ⟨_, _, z1, rfl, tb, rfl, z2⟩
        refine tup_q (.inl hD) fun pb G t1 hx => ⟨_, rfl, p, C, dx, _, rfl, t1 _ _ (t0 _ _ P1), TC.cl, TC.no _ (List.mem_of_getElem? (i := 1) rfl), by simp, ?_⟩
        have tt : Same N1 G := Same.trans t0 t1
        have O2 : Oth p N1 (upd G p (.ins C dx (putF "bases" (.ref pb) [("classes", .ref pc)]))) := Oth.upd (Oth.of tt)
        have P2 : upd G p (.ins C dx (putF "bases" (.ref pb) [("classes", .ref pc)])) p = some (.ins C dx [("classes", .ref pc), ("bases", .ref pb)]) := upd_same
        have X2 : upd G p (.ins C dx (putF "bases" (.ref pb) [("classes", .ref pc)])) pb = some (.tup bs) := tups_upd (tt _ _ P1) (fun xs z => by cases z) _ _ hx
        have kk2 : TupK G (upd G p (.ins C dx (putF "bases" (.ref pb) [("classes", .ref pc)]))) := tups_upd (tt _ _ P1) fun xs z => by cases z
        have T1 : TupsAt (upd G p (.ins C dx (putF "bases" (.ref pb) [("classes", .ref pc)]))) bs (ds.map (·.1)) := ((colB_tups hB).mono (Same.tupK t1)).mono kk2
        generalize hN : upd G p (.ins C dx (putF "bases" (.ref pb) [("classes", .ref pc)])) = N2 at O2 P2 X2 kk2 T1 ⊢
        have E2 : EntsAt N2 us ds := E1.mono (O2.tupK P1)
        have R2 : N2 R = some (.lst us) := O2 _ _ hRp R1
        clear hN kk2 tt t1 t0 hx hD hB G G0
        -- owns
        refine Box.mk <| col_q (k := 1) ColO (fun H H' v d kk z => z) (fun H t d z => ?_) R2 E2 h12 fun D G0 os t0 hD hB => ?_
        · obtain ⟨tb, tm, z1, z2, z3⟩ := z
          exact ⟨_, _, z1, rfl, rfl⟩
        refine tup_q (.inl hD) fun po G t1 hx => ⟨_, rfl, p, C, dx, _, rfl, t1 _ _ (t0 _ _ P2), TC.cl, TC.no _ (List.mem_of_getElem? (i := 2) rfl), by simp, ?_⟩
        have tt : Same N2 G := Same.trans t0 t1
        have O3 : Oth p N2 (upd G p (.ins C dx (putF "owns" (.ref po) [("classes", .ref pc), ("bases", .ref pb)]))) := Oth.upd (Oth.of tt)
        have P3 : upd G p (.ins C dx (putF "owns" (.ref po) [("classes", .ref pc), ("bases", .ref pb)])) p = some (.ins C dx [("classes", .ref pc), ("bases", .ref pb), ("owns", .ref po)]) := upd_same
        have X3 : upd G p (.ins C dx (putF "owns" (.ref po) [("classes", .ref pc), ("bases", .ref pb)])) po = some (.tup os) := tups_upd (tt _ _ P2) (fun xs z => by cases z) _ _ hx
        have kk3 : TupK G (upd G p (.ins C dx (putF "owns" (.ref po) [("classes", .ref pc), ("bases", .ref pb)]))) := tups_upd (tt _ _ P2) fun xs z => by cases z
        have T2 : os = (ds.map (·.2.1)).map natV := colO_nats hB
        generalize hN : upd G p (.ins C dx (putF "owns" (.ref po) [("classes", .ref pc), ("bases", .ref pb)])) = N3 at O3 P3 X3 kk3 ⊢
        have E3 : EntsAt N3 us ds := E2.mono (O3.tupK P2)
        have R3 : N3 R = some (.lst us) := O3 _ _ hRp R2
        clear hN kk3 tt t1 t0 hx hD hB G G0
        -- methods
        refine Box.mk <| col_q (k := 2) ColM (fun H H' v d kk z => ?_) (fun H t d z => ?_) R3 E3 h12 fun D G0 ms t0 hD hB => ?_
        · obtain ⟨t, e1, e2⟩ := z
          exact ⟨t, e1, kk _ _ e2⟩
        · obtain ⟨tb, tm, z1, z2, z3⟩ := z
          exact ⟨_, _, z1, rfl, tm, rfl, z3⟩
        refine tup_q (.inl hD) fun pm G t1 hx => ⟨_, rfl, p, C, dx, _, rfl, t1 _ _ (t0 _ _ P3), TC.cl, TC.no _ (List.mem_of_getElem? (i := 3) rfl), by simp, ?_⟩
        have tt : Same N3 G := Same.trans t0 t1
        have O4 : Oth p N3 (upd G p (.ins C dx (putF "methods" (.ref pm) [("classes", .ref pc), ("bases", .ref pb), ("owns", .ref po)]))) := Oth.upd (Oth.of tt)
        have P4 : upd G p (.ins C dx (putF "methods" (.ref pm) [("classes", .ref pc), ("bases", .ref pb), ("owns", .ref po)])) p = some (.ins C dx [("classes", .ref pc), ("bases", .ref pb), ("owns", .ref po), ("methods", .ref pm)]) := upd_same
        have X4 : upd G p (.ins C dx (putF "methods" (.ref pm) [("classes", .ref pc), ("bases", .ref pb), ("owns", .ref po)])) pm = some (.tup ms) := tups_upd (tt _ _ P3) (fun xs z => by cases z) _ _ hx
        have kk4 : TupK G (upd G p (.ins C dx (putF "methods" (.ref pm) [("classes", .ref pc), ("bases", .ref pb), ("owns", .ref po)]))) := tups_upd (tt _ _ P3) fun xs z => by cases z
        have T3 : TupsAt (upd G p (.ins C dx (putF "methods" (.ref pm) [("classes", .ref pc), ("bases", .ref pb), ("owns", .ref po)]))) ms (ds.map fun d => sortN d.2.2) := ((colM_tups hB).mono (Same.tupK t1)).mono kk4
        generalize hN : upd G p (.ins C dx (putF "methods" (.ref pm) [("classes", .ref pc), ("bases", .ref pb), ("owns", .ref po)])) = N4 at O4 P4 X4 kk4 T3 ⊢
        have E4 : EntsAt N4 us ds := E3.mono (O4.tupK P3)
        have R4 : N4 R = some (.lst us) := O4 _ _ hRp R3
        clear hN kk4 tt t1 t0 hx hD hB G G0
        -- elders
        have hv : validB (ds.map (·.1)) := fun c row hc b hb => by
          rw [List.getElem?_map] at hc
          obtain ⟨d, hd, rfl⟩ := Option.map_eq_some_iff.mp hc
          obtain ⟨e, _, _, _, _, _, _, _, _, ⟨_, _, z⟩, _⟩ := hok c d hd
          exact z b hb
        have hr12 : ∀ row ∈ ds.map (·.1), row.length ≤ 12 := fun row hrow => by
          obtain ⟨d, hd, rfl⟩ := List.mem_map.mp hrow
          obtain ⟨c, hc⟩ := List.mem_iff_getElem?.mp hd
          obtain ⟨e, _, _, _, _, _, _, _, _, ⟨_, z, _⟩, _⟩ := hok c d hc
          exact z
        have B4 : N4 pb = some (.tup bs) := O4.tupK P3 _ _ (O3.tupK P2 _ _ X2)
        have TB4 : TupsAt N4 bs (ds.map (·.1)) := (T1.mono (O3.tupK P2)).mono (O4.tupK P3)
        refine ⟨_, rfl, p, C, dx, _, _, rfl, P4, TC.cl, TC.no _ (List.mem_of_getElem? (i := 1) rfl), rfl, pb, bs, ds.map (·.1), rfl, B4, TB4, hv, by rw [List.length_map]; exact h12, hr12, fun G pe es' tt hx hU => ⟨_, rfl, p, C, dx, _, rfl, tt _ _ P4, TC.cl, TC.no _ (List.mem_of_getElem? (i := 4) rfl), by simp, ?_⟩⟩
        have O5 : Oth p N4 (upd G p (.ins C dx (putF "elders" (.ref pe) [("classes", .ref pc), ("bases", .ref pb), ("owns", .ref po), ("methods", .ref pm)]))) := Oth.upd (Oth.of tt)
        have P5 : upd G p (.ins C dx (putF "elders" (.ref pe) [("classes", .ref pc), ("bases", .ref pb), ("owns", .ref po), ("methods", .ref pm)])) p = some (.ins C dx [("classes", .ref pc), ("bases", .ref pb), ("owns", .ref po), ("methods", .ref pm), ("elders", .ref pe)]) := upd_same
        have X5 : upd G p (.ins C dx (putF "elders" (.ref pe) [("classes", .ref pc), ("bases", .ref pb), ("owns", .ref po), ("methods", .ref pm)])) pe = some (.tup es') := tups_upd (tt _ _ P4) (fun xs z => by cases z) _ _ hx
        have kk5 : TupK G (upd G p (.ins C dx (putF "elders" (.ref pe) [("classes", .ref pc), ("bases", .ref pb), ("owns", .ref po), ("methods", .ref pm)]))) := tups_upd (tt _ _ P4) fun xs z => by cases z
        have T4 : TupsAt (upd G p (.ins C dx (putF "elders" (.ref pe) [("classes", .ref pc), ("bases", .ref pb), ("owns", .ref po), ("methods", .ref pm)]))) es' (elders (ds.map (·.1))) := hU.mono kk5
        generalize hN : upd G p (.ins C dx (putF "elders" (.ref pe) [("classes", .ref pc), ("bases", .ref pb), ("owns", .ref po), ("methods", .ref pm)])) = N5 at O5 P5 X5 kk5 T4 ⊢
        clear hN kk5 tt hx hU G
        -- heirs
        refine ⟨_, rfl, p, C, dx, _, _, rfl, P5, TC.cl, TC.no _ (List.mem_of_getElem? (i := 4) rfl), rfl, pe, es', elders (ds.map (·.1)), rfl, X5, T4, by rw [elders_len, List.length_map]; exact h12, fun G ph hs tt hx hU => ⟨_, rfl, p, C, dx, _, rfl, tt _ _ P5, TC.cl, TC.no _ (List.mem_of_getElem? (i := 5) rfl), by simp, ?_⟩⟩
        have O6 : Oth p N5 (upd G p (.ins C dx (putF "heirs" (.ref ph) [("classes", .ref pc), ("bases", .ref pb), ("owns", .ref po), ("methods", .ref pm), ("elders", .ref pe)]))) := Oth.upd (Oth.of tt)
        have P6 : upd G p (.ins C dx (putF "heirs" (.ref ph) [("classes", .ref pc), ("bases", .ref pb), ("owns", .ref po), ("methods", .ref pm), ("elders", .ref pe)])) p = some (.ins C dx [("classes", .ref pc), ("bases", .ref pb), ("owns", .ref po), ("methods", .ref pm), ("elders", .ref pe), ("heirs", .ref ph)]) := upd_same
        have X6 : upd G p (.ins C dx (putF "heirs" (.ref ph) [("classes", .ref pc), ("bases", .ref pb), ("owns", .ref po), ("methods", .ref pm), ("elders", .ref pe)])) ph = some (.tup hs) := tups_upd (tt _ _ P5) (fun xs z => by cases z) _ _ hx
        have kk6 : TupK G (upd G p (.ins C dx (putF "heirs" (.ref ph) [("classes", .ref pc), ("bases", .ref pb), ("owns", .ref po), ("methods", .ref pm), ("elders", .ref pe)]))) := tups_upd (tt _ _ P5) fun xs z => by cases z
        have T5 : TupsAt (upd G p (.ins C dx (putF "heirs" (.ref ph) [("classes", .ref pc), ("bases", .ref pb), ("owns", .ref po), ("methods", .ref pm), ("elders", .ref pe)]))) hs (heirs (elders (ds.map (·.1)))) := hU.mono kk6
        generalize hN : upd G p (.ins C dx (putF "heirs" (.ref ph) [("classes", .ref pc), ("bases", .ref pb), ("owns", .ref po), ("methods", .ref pm), ("elders", .ref pe)])) = N6 at O6 P6 X6 kk6 T5 ⊢
        have k23 := O3.tupK P2
        have k34 := O4.tupK P3
        have k45 := O5.tupK P4
        have k56 := O6.tupK P5
        have k12 := O2.tupK P1
        have k16 : TupK N1 N6 := fun b xs e => k56 _ _ (k45 _ _ (k34 _ _ (k23 _ _ (k12 _ _ e))))
        have k26 : TupK N2 N6 := fun b xs e => k56 _ _ (k45 _ _ (k34 _ _ (k23 _ _ e)))
        have k36 : TupK N3 N6 := fun b xs e => k56 _ _ (k45 _ _ (k34 _ _ e))
        have k46 : TupK N4 N6 := fun b xs e => k56 _ _ (k45 _ _ e)
        exact k N6 ((((((O0.trans O1).trans O2).trans O3).trans O4).trans O5).trans O6) ⟨dx, pc, pb, po, pm, pe, ph, us, bs, ms, es', hs, P6, k16 _ _ C1, E1.mono k16, k26 _ _ X2, T1.mono k26, by rw [← T2]; exact k36 _ _ X3, k46 _ _ X4, T3.mono k46, k56 _ _ X5, T4.mono k56, X6, T5⟩
end
end K16

set_option maxRecDepth 100000
set_option maxHeartbeats 4000000
namespace K16
open PySem PySem.Spec PyProof.Rows L2 Kw
/-- the hand at p: its cells' list at q, the place, what is left of a great cell, the total -/
def HandAt (H : Hp) (p q : Addr) : Prop := ∃ (cs : List Int) (i r t : Int), H p = some (.lst [.ref q, .int i, .int r, .int t]) ∧ H q = some (.lst (cs.map V.int)) ∧ p ≠ q ∧
  (∀ c ∈ cs, 0 ≤ c) ∧ 0 ≤ i ∧ i ≤ (cs.length : Int) ∧ cs.length ≤ 63 ∧ 0 ≤ r ∧ 0 ≤ t ∧ t < 2147483549
def spHand (K : PySem.W.Frag) : Sp := fun vs H Q _ => ∃ (a : Addr) (ns : List Int), vs = [.ref a] ∧ SqL K H a (ns.map V.int) ∧ ns.length ≤ 63 ∧ ∀ p q H', Same H H' → H p = none → H q = none → HandAt H' p q → Q (.ref p) H'
def spMixed : Sp := fun vs H Q _ => ∃ n t : Int, vs = [.int n, .int t] ∧ 0 ≤ n ∧ n < 2147483600 ∧ 0 ≤ t ∧ t < 100 ∧ ∀ r : Int, 0 ≤ r → Q (.int r) H
def spTake : Sp := fun vs H Q _ => ∃ (p q : Addr) (m : Int), vs = [.ref p, .int m] ∧ 1 ≤ m ∧ m < 1073741824 ∧ HandAt H p q ∧ ∀ (r : Int) (H' : Hp), 0 ≤ r → r < m → HandAt H' p q → (∀ b, b ≠ p → H' b = H b) → Q (.int r) H'

theorem emod_in {a m : Int} (h : 0 < m) : 0 ≤ a % m ∧ a % m < m := ⟨Int.emod_nonneg _ (by omega), Int.emod_lt_of_pos _ h⟩
section
variable {P : Program} {w : World} {K : PySem.W.Frag} {mg : Str → Option Value} {base : Heap} {f : Addr} {fd : FuncData}
theorem scM : FnScope ["_law_number", "_law_turn", "_law_once", "_law_twice"] ["_law_number", "_law_turn"] (defScope (top 45)) := ⟨rfl, rfl, rfl, by decide +kernel, rfl, by decide +kernel, by decide +kernel⟩
theorem ok_mixed (F : FnP K "_law_mixed" 45 f fd) (gI : mg "int" = none) : FnOk P w K mg base CX0 1 f fd ["_law_number", "_law_turn"] spMixed := by
  refine F.ok scM (fun vs H Q E h => ?_) (fun cdv A outer s H vs Q E hr h => ?_)
  · obtain ⟨n, t, rfl, _⟩ := h
    rfl
  · obtain ⟨n, t, rfl, n0, n1, t0, t1, k⟩ := h
    refine ⟨_, PSs.nox (pss_cons (ps_set (i := 2) scM.nd rfl (Or.inl rfl) (pe_op op_mod (pe_callTy call_int1 (by rfl) gI PyProof.Rows.boot_int (pa_cons (pe_op op_add (pe_op op_add (pe_op op_mul (pv 0) pe_int) (pe_op op_mul (pv 1) pe_int)) pe_int) pa_nil)) pe_int))
      (pss_cons (ps_set (i := 3) scM.nd rfl (Or.inl rfl) (pe_op op_mod (pe_callTy call_int1 (by rfl) gI PyProof.Rows.boot_int (pa_cons (pe_op op_add (pe_op op_add (pe_op op_mul (pv 2) (pv 2)) (pe_op op_mul (pv 1) pe_int)) (pe_op op_fdiv (pv 2) pe_int)) pa_nil)) pe_int))
      (pss_one (ps_ret (pe_op op_fdiv (pe_callTy call_int1 (by rfl) gI PyProof.Rows.boot_int (pa_cons (pe_op op_mod (pe_callTy call_int1 (by rfl) gI PyProof.Rows.boot_int (pa_cons (pe_op op_add (pe_op op_mul (pv 3) pe_int) (pe_op op_fdiv (pv 2) pe_int)) pa_nil)) pe_int) pa_nil)) pe_int))))), ?_⟩
    refine ⟨_, rfl, _, _, rfl, rfl, .inr ⟨by decide, by decide⟩, _, rfl, _, _, rfl, rfl, .inr ⟨by decide, by decide⟩, _, _, rfl, rfl, _, _, rfl, rfl, .inl ⟨_, rfl, _, _, rfl, rfl, (by show (0 : Int) < 2147483399; decide), ?_⟩⟩
    have bo := emod_in (a := n * 48271 + t * 7919 + 30011) (m := 2147483399) (by decide)
    refine ⟨_, rfl, _, rfl, _, _, rfl, rfl, .inl ⟨by show (-(2 ^ 64) : Int) < (n * 48271 + t * 7919 + 30011) % 2147483399; omega, by show (n * 48271 + t * 7919 + 30011) % 2147483399 < (2 ^ 64 : Int); omega⟩, _, rfl, _, _, rfl, rfl, .inr ⟨by decide, by decide⟩, _, _, rfl, rfl, _, rfl, _, _, rfl, rfl, ⟨by decide, by decide⟩, _, _, rfl, rfl, .inl ⟨_, rfl, _, _, rfl, rfl, (by show (0 : Int) < 2147483629; decide), ?_⟩⟩
    refine ⟨_, rfl, _, _, rfl, rfl, .inr ⟨by decide, by decide⟩, _, rfl, _, _, rfl, rfl, ⟨by decide, by decide⟩, _, _, rfl, rfl, .inl ⟨_, rfl, _, _, rfl, rfl, (by show (0 : Int) < 2147483587; decide), .inl ⟨_, rfl, _, _, rfl, rfl, ⟨by decide, by decide⟩, ?_⟩⟩⟩
    exact k _ (Int.ediv_nonneg (emod_in (by decide)).1 (by decide))

theorem scH : FnScope ["_law_script", "_law_total", "_law_cells", "_law_cell"] ["_law_script"] (defScope (top 44)) := ⟨rfl, rfl, rfl, by decide +kernel, rfl, by decide +kernel, by decide +kernel⟩
theorem ok_hand (F : FnP K "_law_hand" 44 f fd) (gI : mg "int" = none) (gL : mg "len" = none) (gA : mg "abs" = none) : FnOk P w K mg base CX0 1 f fd ["_law_script"] (spHand K) := by
  refine F.ok scH (fun vs H Q E h => ?_) (fun cdv A outer s H vs Q E hr h => ?_)
  · obtain ⟨a, ns, rfl, _⟩ := h
    rfl
  · obtain ⟨a, ns, rfl, hS, hl, k⟩ := h
    refine ⟨_, PSs.nox (pss_cons (ps_set (i := 1) scH.nd rfl (Or.inl rfl) (pe_op op_add (pe_callB call_len_seq (by rfl) gL PySem.boot_len (pa_cons (pv 0) pa_nil)) pe_int))
      (pss_cons (ps_set (i := 2) scH.nd rfl (Or.inl rfl) (pe_lst pa_nil))
      (pss_cons (ps_for PassesOwn.never rfl (pi_list (pv 0)) (pg_name (i := 3) scH.nd rfl (Or.inl rfl))
        (pss_cons (ps_set (i := 1) scH.nd rfl (Or.inl rfl) (pe_op op_mod (pe_callTy call_int1 (by rfl) gI PyProof.Rows.boot_int (pa_cons (pe_op op_add (pe_op op_mul (pv 1) pe_int) (pe_callTy call_int1 (by rfl) gI PyProof.Rows.boot_int (pa_cons (pv 3) pa_nil))) pa_nil)) pe_int))
        (pss_one (ps_expr (pe_bm PySem.F.plainAttrs_list PySem.F.slot_list_append PySem.F.type_list_append mt_append (pv 2) (pa_cons (pe_callB call_abs (by rfl) gA PyProof.Rows.boot_abs (pa_cons (pe_callTy call_int1 (by rfl) gI PyProof.Rows.boot_int (pa_cons (pv 3) pa_nil)) pa_nil)) pa_nil))))))
      (pss_one (ps_ret (pe_lst (pa_cons (pv 2) (pa_cons pe_int (pa_cons pe_int (pa_cons (pv 1) pa_nil)))))))))), ?_⟩
    refine ⟨_, rfl, a, _, rfl, .inl hS, _, _, rfl, rfl, Nat.zero_le _, fun q hq => ?_⟩
    have sq : Same H (upd H q (.lst [])) := fun b o e => by
      rw [upd_ne (ne_of_none e hq)]
      exact e
    refine ⟨_, rfl, a, rfl, ⟨_, sq.seq hS⟩, for_list (K := K) (a := a) (xs := ns.map V.int) (fun i σ H' => ∃ (t : Int) (cs : List Int) (v : Option V), σ = [some (.ref a), some (.int t), some (.ref q), v] ∧ Same H H' ∧ H q = none ∧ H' q = some (.lst (cs.map V.int)) ∧ cs.length = i ∧ (∀ c ∈ cs, 0 ≤ c) ∧ 0 ≤ t ∧ t < 2147483549)
      ⟨_, [], none, rfl, sq, hq, upd_same, rfl, (fun c hc => by cases hc), ?_, ?_⟩ (fun i σ H' _ ⟨_, _, _, _, s, _⟩ => s.seq hS) ?_ ?_⟩
    · show (0 : Int) ≤ ((ns.map V.int).length : Int) + 37
      omega
    · show ((ns.map V.int).length : Int) + 37 < 2147483549
      rw [List.length_map]
      omega
    · rintro i y σ H' hi ⟨t, cs, v, rfl, s, hq0, hc, hln, h0, t0, t1⟩
      obtain ⟨u, rfl⟩ : ∃ u, y = V.int u := by
        rw [List.getElem?_map] at hi
        cases e : ns[i]? with
        | none =>
          rw [e] at hi
          cases hi
        | some u =>
          rw [e] at hi
          exact ⟨u, (Option.some.inj hi).symm⟩
      have hi63 : i < ns.length := by
        have z := (List.getElem?_eq_some_iff.mp hi).1
        rw [List.length_map] at z
        exact z
      refine ⟨_, rfl, _, _, rfl, rfl, .inr ⟨by decide, by decide⟩, _, rfl, .inl ⟨_, rfl, _, _, rfl, rfl, .inl ⟨_, rfl, _, _, rfl, rfl, (by show (0 : Int) < 2147483549; decide), ?_⟩⟩⟩
      have bt := emod_in (a := t * 1709 + u) (m := 2147483549) (by decide)
      refine ⟨_, rfl, .inl ⟨rfl, _, SqL.of hc⟩, _, rfl, .inl ⟨_, rfl, _, rfl, q, _, _, rfl, rfl, hc, ?_, ?_⟩⟩
      · rw [List.length_map]
        exact small1000 (by omega)
      · refine ⟨_, cs ++ [if u < 0 then -u else u], _, rfl, fun b o e => ?_, hq0, ?_, ?_, ?_, bt.1, bt.2⟩
        · rw [upd_ne (ne_of_none e hq0)]
          exact s b o e
        · rw [upd_same, List.map_append]
          rfl
        · rw [List.length_append, hln]
          rfl
        · intro c hc'
          rcases List.mem_append.mp hc' with z | z
          · exact h0 c z
          · rw [List.mem_singleton.mp z]
            split <;> omega
    · rintro σ H' ⟨t, cs, v, rfl, s, hq0, hc, hln, h0, t0, t1⟩
      refine ⟨_, rfl, _, rfl, (by show 4 ≤ sizeLine; decide), fun p hp => ?_⟩
      have npq : p ≠ q := fun z => by
        rw [z, hc] at hp
        cases hp
      have hln' : cs.length = ns.length := by
        rw [hln, List.length_map]
      refine k p q _ (fun b o e => ?_) (s.free hp) hq0 ⟨cs, 0, 0, t, upd_same, by rw [upd_ne npq.symm]; exact hc, npq, h0, Int.le_refl _, by omega, by omega, Int.le_refl _, t0, t1⟩
      rw [upd_ne (ne_of_none (s b o e) hp)]
      exact s b o e
end
theorem at4 {a b c d : V} : atI [a, b, c, d] 0 = some a ∧ atI [a, b, c, d] 1 = some b ∧ atI [a, b, c, d] 2 = some c ∧ atI [a, b, c, d] 3 = some d := ⟨rfl, rfl, rfl, rfl⟩
theorem vint {a b : Int} (h : decide (V.int a = V.int b) = true) : a = b := V.int.inj (of_decide_eq_true h)
theorem dec_t {c : Prop} [Decidable c] (h : decide c = true) : c := of_decide_eq_true h
theorem dec_f {c : Prop} [Decidable c] (h : ¬ decide c = true) : ¬ c := fun z => h (decide_eq_true z)
section
variable {P : Program} {w : World} {K : PySem.W.Frag} {mg : Str → Option Value} {base : Heap} {f fM : Addr} {fd fdM : FuncData}
theorem scT : FnScope ["_law_hand_here", "_law_many", "_law_cell", "_law_rest"] ["_law_hand_here", "_law_many"] (defScope (top 46)) := ⟨rfl, rfl, rfl, by decide +kernel, rfl, by decide +kernel, by decide +kernel⟩
theorem ok_take (F : FnP K "_law_take" 46 f fd) (FM : FnP K "_law_mixed" 45 fM fdM) (mM : mg "_law_mixed" = some (.ref fM)) (gI : mg "int" = none) (gL : mg "len" = none) : FnOk P w K mg base CX0 2 f fd ["_law_hand_here", "_law_many"] spTake := by
  have GM : FnOk P w K mg base CX0 1 fM fdM ["_law_number", "_law_turn"] spMixed := ok_mixed FM gI
  have bM : Binds K fdM ["_law_number", "_law_turn"] [] := FM.bindsN fun _ _ _ _ _ _ us hl => match us, hl with | [_, _], _ => rfl
  refine F.ok scT (fun vs H Q E h => ?_) (fun cdv A outer s H vs Q E hr h => ?_)
  · obtain ⟨n, q, t, rfl, _⟩ := h
    rfl
  · obtain ⟨p, q, m, rfl, m1, m2, hh, k⟩ := h
    refine ⟨_, PSs.nox (C8.pss_cut (ps_if (PW.pt (pw_and (pt_cmpR op_eq (pe_ix ix_list (pv 0) pe_int (fun _ _ => rfl)) pe_int (nomark _)) (pw_and1 (pt_cmpR op_lt (pe_ix ix_list (pv 0) pe_int (fun _ _ => rfl)) (pe_callB call_len_seq (by rfl) gL PySem.boot_len (pa_cons (pe_ix ix_list (pv 0) pe_int (fun _ _ => rfl)) pa_nil)) (nomark _)))))
        (pss_cons (ps_set (i := 2) scT.nd rfl (Or.inl rfl) (pe_ix ix_list (pe_ix ix_list (pv 0) pe_int (fun _ _ => rfl)) (pe_ix ix_list (pv 0) pe_int (fun _ _ => rfl)) (fun _ _ => rfl)))
        (pss_cons (ps_asg (pe_op op_add (pe_ix ix_list (pv 0) pe_int (fun _ _ => rfl)) pe_int) (pg_sub (pv 0) pe_int set_list (fun _ => rfl)))
        (pss_cons (ps_if (pt_cmpR op_lt (pv 2) (pe_op op_pow pe_int pe_int) (nomark _))
            (pss_one (ps_ret (pe_op op_mod (pe_callTy call_int1 (by rfl) gI PyProof.Rows.boot_int (pa_cons (pe_call GM hr rfl mM FM.kp bM .nil pass0 (pa_cons (pe_op op_mod (pe_callTy call_int1 (by rfl) gI PyProof.Rows.boot_int (pa_cons (pv 2) pa_nil)) pe_int) (pa_cons (pe_ix ix_list (pv 0) pe_int (fun _ _ => rfl)) pa_nil))) pa_nil)) (pv 1)))) pss_nil)
        (pss_one (ps_asg (pv 2) (pg_sub (pv 0) pe_int set_list (fun _ => rfl))))))) pss_nil)
      (C8.pss_cut (ps_if (pt_cmpR op_gt (pe_ix ix_list (pv 0) pe_int (fun _ _ => rfl)) pe_int (nomark _))
        (pss_cons (ps_set (i := 3) scT.nd rfl (Or.inl rfl) (pe_ix ix_list (pv 0) pe_int (fun _ _ => rfl)))
        (pss_cons (ps_asg (pe_op op_fdiv (pe_callTy call_int1 (by rfl) gI PyProof.Rows.boot_int (pa_cons (pv 3) pa_nil)) (pv 1)) (pg_sub (pv 0) pe_int set_list (fun _ => rfl)))
        (pss_one (ps_ret (pe_op op_mod (pe_callTy call_int1 (by rfl) gI PyProof.Rows.boot_int (pa_cons (pv 3) pa_nil)) (pv 1)))))) pss_nil)
      (pss_cons (ps_asg (pe_op op_mod (pe_callTy call_int1 (by rfl) gI PyProof.Rows.boot_int (pa_cons (pe_op op_add (pe_ix ix_list (pv 0) pe_int (fun _ _ => rfl)) pe_int) pa_nil)) pe_int) (pg_sub (pv 0) pe_int set_list (fun _ => rfl)))
      (pss_one (ps_ret (pe_op op_mod (pe_callTy call_int1 (by rfl) gI PyProof.Rows.boot_int (pa_cons (pe_call GM hr rfl mM FM.kp bM .nil pass0 (pa_cons (pe_ix ix_list (pv 0) pe_int (fun _ _ => rfl)) (pa_cons (pe_ix ix_list (pv 0) pe_int (fun _ _ => rfl)) pa_nil))) pa_nil)) (pv 1))))))), ?_⟩
    -- between the statements: some hand stands at p, nothing else has changed
    let Mid : L2.St → Hp → Prop := fun σ H' => ∃ c d, σ = [some (.ref p), some (.int m), c, d] ∧ HandAt H' p q ∧ ∀ b, b ≠ p → H' b = H b
    have setH : ∀ {H' : Hp} {cs : List Int} {i r t : Int}, H' q = some (.lst (cs.map V.int)) → p ≠ q → (∀ c ∈ cs, 0 ≤ c) → 0 ≤ i → i ≤ (cs.length : Int) → cs.length ≤ 63 → 0 ≤ r → 0 ≤ t → t < 2147483549 →
        HandAt (upd H' p (.lst [.ref q, .int i, .int r, .int t])) p q := fun hq npq h0 i0 i1 l r0 t0 t1 => ⟨_, _, _, _, upd_same, by rw [upd_ne npq.symm]; exact hq, npq, h0, i0, i1, l, r0, t0, t1⟩
    have setB : ∀ {H' : Hp} {o : HO}, (∀ b, b ≠ p → H' b = H b) → ∀ b, b ≠ p → upd H' p o b = H b := fun h b hb => by rw [upd_ne hb]; exact h b hb
    refine ⟨Mid, ?_, ?_⟩
    · obtain ⟨cs, i, r, t, hp, hq, npq, h0, i0, i1, hl, r0, t0, t1⟩ := id hh
      refine ⟨_, rfl, p, _, _, _, rfl, rfl, SqL.of hp, at4.2.2.1, rfl, _, rfl, ?_⟩
      refine ite2 (fun e => ?_) (fun _ => iteF ⟨_, _, rfl, hh, fun b _ => rfl⟩)
      refine ⟨_, rfl, p, _, _, _, rfl, rfl, SqL.of hp, at4.2.1, _, rfl, p, _, _, _, rfl, rfl, SqL.of hp, at4.1, q, _, rfl, .inl (SqL.of hq), _, _, rfl, rfl, _, rfl, ?_⟩
      refine ite2 (fun e2 => ?_) (fun _ => ⟨_, _, rfl, hh, fun b _ => rfl⟩)
      have il : i < ((cs.map V.int).length : Int) := dec_t e2
      rw [List.length_map] at il
      obtain ⟨j, rfl⟩ : ∃ j : Nat, i = (j : Int) := ⟨i.toNat, by omega⟩
      have jl : j < cs.length := by omega
      have hc : (cs.map V.int)[j]? = some (V.int cs[j]) := by
        rw [List.getElem?_map, List.getElem?_eq_getElem jl]
        rfl
      have c0 := h0 _ (List.getElem_mem jl)
      generalize cs[j] = c at hc c0
      refine ⟨_, rfl, p, _, _, _, rfl, rfl, SqL.of hp, at4.1, _, rfl, p, _, _, _, rfl, rfl, SqL.of hp, at4.2.1, q, _, _, _, rfl, rfl, SqL.of hq, atI_nat hc, ?_⟩
      refine ⟨_, rfl, p, _, _, _, rfl, rfl, SqL.of hp, at4.2.1, _, _, rfl, rfl, _, rfl, p, _, _, 1, rfl, rfl, hp, rfl, ?_⟩
      have hh1 : HandAt (upd H p (.lst [.ref q, .int ((j : Int) + 1), .int r, .int t])) p q := setH hq npq h0 (by omega) (by omega) hl r0 t0 t1
      refine ⟨_, rfl, _, _, rfl, rfl, ⟨by decide, by decide, by decide⟩, _, _, rfl, rfl, _, rfl, ?_⟩
      refine ite2 (fun _ => ?_) (fun _ => ?_)
      · refine ⟨_, rfl, .inl ⟨_, rfl, _, _, rfl, rfl, (by show (0 : Int) < 2147483399; decide), _, rfl, p, _, _, _, rfl, rfl, SqL.of upd_same, at4.2.1, ?_⟩⟩
        have b := emod_in (a := c) (m := 2147483399) (by decide)
        refine ⟨_, _, rfl, b.1, by omega, by omega, by omega, fun x x0 => .inl ⟨_, rfl, _, rfl, _, _, rfl, rfl, (by show (0 : Int) < m; omega), ?_⟩⟩
        have bm := emod_in (a := x) (m := m) (by omega)
        exact k _ _ bm.1 bm.2 hh1 (setB fun b _ => rfl)
      · refine ⟨_, rfl, _, rfl, p, _, _, 2, rfl, rfl, upd_same, rfl, ?_⟩
        rw [upd_upd]
        exact ⟨_, _, rfl, setH hq npq h0 (by omega) (by omega) hl c0 t0 t1, setB fun b _ => rfl⟩
    · rintro σ H1 ⟨c, d, rfl, hh1, hb1⟩
      refine ⟨Mid, ?_, ?_⟩
      · obtain ⟨cs, i, r, t, hp, hq, npq, h0, i0, i1, hl, r0, t0, t1⟩ := id hh1
        refine ⟨_, rfl, p, _, _, _, rfl, rfl, SqL.of hp, at4.2.2.1, _, _, rfl, rfl, _, rfl, ?_⟩
        refine ite2 (fun e => ?_) (fun _ => ⟨_, _, rfl, hh1, hb1⟩)
        refine ⟨_, rfl, p, _, _, _, rfl, rfl, SqL.of hp, at4.2.2.1, _, rfl, .inl ⟨_, rfl, _, rfl, _, _, rfl, rfl, ⟨by show (0 : Int) < m; omega, m2⟩, _, rfl, p, _, _, 2, rfl, rfl, hp, rfl, _, rfl, .inl ⟨_, rfl, _, rfl, _, _, rfl, rfl, (by show (0 : Int) < m; omega), ?_⟩⟩⟩
        have bm := emod_in (a := r) (m := m) (by omega)
        exact k _ _ bm.1 bm.2 (setH hq npq h0 i0 i1 hl (Int.ediv_nonneg r0 (by omega)) t0 t1) (setB hb1)
      · rintro σ H2 ⟨c, d, rfl, hh2, hb2⟩
        obtain ⟨cs, i, r, t, hp, hq, npq, h0, i0, i1, hl, r0, t0, t1⟩ := id hh2
        refine ⟨_, rfl, p, _, _, _, rfl, rfl, SqL.of hp, at4.2.2.2, _, _, rfl, rfl, .inl ⟨_, rfl, _, _, rfl, rfl, (by show (0 : Int) < 2147483549; decide), _, rfl, p, _, _, 3, rfl, rfl, hp, rfl, ?_⟩⟩
        have bt := emod_in (a := t + 1) (m := 2147483549) (by decide)
        refine ⟨_, rfl, p, _, _, _, rfl, rfl, SqL.of upd_same, at4.2.2.2, _, rfl, p, _, _, _, rfl, rfl, SqL.of upd_same, at4.2.1, _, _, rfl, bt.1, by omega, i0, by omega, fun x x0 => .inl ⟨_, rfl, _, rfl, _, _, rfl, rfl, (by show (0 : Int) < m; omega), ?_⟩⟩
        have bm := emod_in (a := x) (m := m) (by omega)
        exact k _ _ bm.1 bm.2 (setH hq npq h0 i0 i1 hl r0 bt.1 bt.2) (setB hb2)
end
end K16

set_option maxRecDepth 100000
set_option maxHeartbeats 4000000
namespace K16
open PySem PySem.Spec PyProof.Rows L2 Kw
theorem HandAt.keep {H H' : Hp} {p q : Addr} (h : HandAt H p q) (s : ∀ b, b = p ∨ b = q → ∀ o, H b = some o → H' b = some o) : HandAt H' p q := by
  obtain ⟨cs, i, r, t, h1, h2, h3⟩ := h
  exact ⟨cs, i, r, t, s p (.inl rfl) _ h1, s q (.inr rfl) _ h2, h3⟩
theorem HandAt.same {H H' : Hp} {p q : Addr} (h : HandAt H p q) (s : Same H H') : HandAt H' p q := h.keep fun b _ o e => s b o e
theorem HandAt.ne {H : Hp} {p q l : Addr} (h : HandAt H p q) (hl : H l = none) : l ≠ p ∧ l ≠ q := by
  obtain ⟨cs, i, r, t, h1, h2, h3⟩ := h
  exact ⟨fun z => (by rw [z, h1] at hl; cases hl), fun z => (by rw [z, h2] at hl; cases hl)⟩
theorem HandAt.upd {H : Hp} {p q l : Addr} {o : HO} (h : HandAt H p q) (hp : l ≠ p) (hq : l ≠ q) : HandAt (upd H l o) p q := h.keep fun b hb u e => by
  refine upB (fun z => ?_) e
  rcases hb with hb | hb
  · exact hp (z ▸ hb)
  · exact hq (z ▸ hb)
theorem tab_at {tab : List Int} {r : Int} (h0 : 0 ≤ r) (h1 : r < (tab.length : Int)) : ∃ v, atI (tab.map V.int) r = some (V.int v) ∧ v ∈ tab := by
  obtain ⟨j, rfl⟩ : ∃ j : Nat, r = (j : Int) := ⟨r.toNat, by omega⟩
  have hj : j < tab.length := by omega
  exact ⟨tab[j], atI_nat (by rw [List.getElem?_map, List.getElem?_eq_getElem hj]; rfl), List.getElem_mem hj⟩
section
variable {P : Program} {w : World} {K : PySem.W.Frag} {mg : Str → Option Value} {base : Heap} {f fT fM : Addr} {fd fdT fdM : FuncData}
def spBases : Sp := fun vs H Q _ => ∃ (p q : Addr) (c : Nat), vs = [.ref p, .int (c : Int)] ∧ c ≤ 12 ∧ HandAt H p q ∧
  ∀ l H' (bs : List Nat), Oth p H H' → HandAt H' p q → H l = none → H' l = some (.lst (bs.map natV)) → bs.Nodup → (∀ b ∈ bs, b < c) → bs.length ≤ 3 → Q (.ref l) H'
theorem sc_bases : FnScope ["_law_hand_here", "_law_c", "_law_bases_here", "_law_step", "_law_base"] ["_law_hand_here", "_law_c"] (defScope (top 47)) := ⟨rfl, rfl, rfl, by decide +kernel, rfl, by decide +kernel, by decide +kernel⟩
theorem ok_bases (F : FnP K "_law_bases" 47 f fd) (B : Fr mg) (FT : FnP K "_law_take" 46 fT fdT) (mT : mg "_law_take" = some (.ref fT)) (FM : FnP K "_law_mixed" 45 fM fdM) (mM : mg "_law_mixed" = some (.ref fM)) :
    FnOk P w K mg base CX0 3 f fd ["_law_hand_here", "_law_c"] spBases := by
  have GT : FnOk P w K mg base CX0 2 fT fdT ["_law_hand_here", "_law_many"] spTake := ok_take FT FM mM B.int B.len
  have bT : L2.Binds K fdT ["_law_hand_here", "_law_many"] [] := FT.bindsN fun _ _ _ _ _ _ us hl => match us, hl with | [_, _], _ => rfl
  refine F.ok sc_bases (fun vs H Q E h => ?_) (fun cdv A outer s H vs Q E hr h => ?_)
  · obtain ⟨p, q, c, rfl, _⟩ := h
    rfl
  · obtain ⟨p, q, c, rfl, hc, hh, k⟩ := h
    refine ⟨_, PSs.nox (pss_cons (ps_set (i := 2) sc_bases.nd rfl (Or.inl rfl) (pe_lst pa_nil))
      (pss_cons (ps_for PassesOwn.never rfl (pi_range1 (by rfl) B.range (pa_cons (pe_ix ix_tup (pe_tup (pa_cons pe_int (pa_cons pe_int (pa_cons pe_int (pa_cons pe_int (pa_cons pe_int (pa_cons pe_int (pa_cons pe_int (pa_cons pe_int pa_nil))))))))) (pe_call GT hr (by rfl) mT FT.kp bT .nil pass0 (pa_cons (pv 0) (pa_cons pe_int pa_nil))) (fun _ _ => rfl)) pa_nil)) (pg_name (i := 3) sc_bases.nd rfl (Or.inl rfl))
        (pss_one (ps_if (pt_cmpR op_gt (pv 1) pe_int (nomark _))
          (pss_cons (ps_set (i := 4) sc_bases.nd rfl (Or.inl rfl) (pe_call GT hr (by rfl) mT FT.kp bT .nil pass0 (pa_cons (pv 0) (pa_cons (pv 1) pa_nil))))
          (pss_one (ps_if (pt_cmpR (r := rIn K true) op_notIn_seq (pv 4) (pv 2) (by rfl)) (pss_one (ps_expr (pe_bm PySem.F.plainAttrs_list PySem.F.slot_list_append PySem.F.type_list_append mt_append (pv 2) (pa_cons (pv 4) pa_nil)))) pss_nil))) pss_nil)))
      (pss_one (ps_ret (pv 2))))), ?_⟩
    refine ⟨by decide, fun l hl => ?_⟩
    obtain ⟨lp, lq⟩ := hh.ne hl
    have h1 : HandAt (upd H l (.lst [])) p q := hh.upd lp lq
    refine ⟨by (show 8 ≤ sizeLine); decide, fun t ht => ?_⟩
    obtain ⟨tp, tq⟩ := h1.ne ht
    have tl : t ≠ l := fun z => by
      rw [z, upd_same] at ht
      cases ht
    refine ⟨_, rfl, p, q, 8, rfl, by decide, by decide, h1.upd tp tq, fun r H2 r0 r1 h2 e2 => ?_⟩
    obtain ⟨v, hv, hm⟩ := tab_at (tab := [0, 1, 1, 2, 2, 2, 3, 1]) r0 r1
    have hv3 : 0 ≤ v ∧ v ≤ 3 := (by decide : ∀ v ∈ ([0, 1, 1, 2, 2, 2, 3, 1] : List Int), 0 ≤ v ∧ v ≤ 3) v hm
    have T2 : H2 t = some (.tup (([0, 1, 1, 2, 2, 2, 3, 1] : List Int).map V.int)) := by
      rw [e2 t tp]
      exact upd_same
    have O2 : Oth p H H2 := fun b o nb e => by
      rw [e2 b nb]
      exact upB (ne_of_none (upB (ne_of_none e hl) e) ht) (upB (ne_of_none e hl) e)
    have L2' : H2 l = some (.lst []) := by
      rw [e2 l lp]
      exact upB tl.symm upd_same
    refine ⟨t, _, r, _, rfl, rfl, SqT.of T2, hv, v, rfl, by omega, by omega, for_range (n := v.toNat) (fun i σ H' => ∃ (bs : List Nat) (x3 x4 : Option V), σ = [some (.ref p), some (.int (c : Int)), some (.ref l), x3, x4] ∧ HandAt H' p q ∧ Oth p H H' ∧ H' l = some (.lst (bs.map natV)) ∧ bs.Nodup ∧ (∀ b ∈ bs, b < c) ∧ bs.length ≤ i)
      ⟨[], none, none, rfl, h2, O2, L2', List.nodup_nil, fun b hb => (by cases hb), Nat.le_refl _⟩ ?_ ?_⟩
    · rintro i σ H3 hi ⟨bs, x3, x4, rfl, h3, O3, L3, nd, hb, hl3⟩
      refine ⟨_, rfl, _, _, rfl, rfl, _, rfl, ?_⟩
      refine ite2 (fun e => ?_) (fun _ => ⟨bs, _, _, rfl, h3, O3, L3, nd, hb, by omega⟩)
      have c0 : (0 : Int) < (c : Int) := of_decide_eq_true e
      refine ⟨_, rfl, _, rfl, p, q, (c : Int), rfl, by omega, by omega, h3, fun r H4 r0 r1 h4 e4 => ?_⟩
      obtain ⟨b, rfl⟩ : ∃ b : Nat, r = (b : Int) := ⟨r.toNat, by omega⟩
      have L4 : H4 l = some (.lst (bs.map natV)) := by
        rw [e4 l lp]
        exact L3
      have O4 : Oth p H H4 := fun a o na e => by
        rw [e4 a na]
        exact O3 a o na e
      refine ⟨_, rfl, _, rfl, l, _, rfl, .inl (SqL.of L4), rfl, flat_nats bs, _, rfl, ?_⟩
      have ein : inV (.int (b : Int)) (bs.map natV) = bs.contains b := inV_nat b bs
      show (if (!inV (.int (b : Int)) (bs.map natV)) = true then _ else _)
      rw [ein]
      cases hbc : bs.contains b with
      | true => exact iteF ⟨bs, _, _, rfl, h4, O4, L4, nd, hb, by omega⟩
      | false =>
        have nb : b ∉ bs := fun z => by
          rw [List.contains_iff_mem.mpr z] at hbc
          cases hbc
        refine iteT ⟨_, rfl, .inl ⟨rfl, _, SqL.of L4⟩, _, rfl, l, _, _, rfl, rfl, L4, ?_, bs ++ [b], _, _, rfl, h4.upd lp lq, fun a o na e => upB (ne_of_none e hl) (O4 a o na e), ?_, ?_, ?_, ?_⟩
        · rw [List.length_map]
          show _ < 2 ^ 24
          omega
        · rw [upd_same, List.map_append]
          rfl
        · refine List.nodup_append.mpr ⟨nd, by simp, fun a ha b' hb' z => nb ?_⟩
          rw [List.mem_singleton.mp hb'] at z
          exact z ▸ ha
        · intro a ha
          rcases List.mem_append.mp ha with ha | ha
          · exact hb a ha
          · rw [List.mem_singleton.mp ha]
            omega
        · rw [List.length_append]
          simp only [List.length_cons, List.length_nil]
          omega
    · rintro σ H3 ⟨bs, x3, x4, rfl, h3, O3, L3, nd, hb, hl3⟩
      exact ⟨_, rfl, k l H3 bs O3 h3 hl L3 nd hb (by omega)⟩
end
end K16

set_option maxRecDepth 100000
set_option maxHeartbeats 4000000
namespace K16
open PySem PySem.Spec PyProof.Rows L2 Kw
/-- list(xs) -/
def rListOf (K : PySem.W.Frag) : List V → Hp → VK → Prop := fun xs H Q => ∃ p ys, xs = [.ref p] ∧ (SqL K H p ys ∨ SqT K H p ys) ∧ ∀ l, H l = none → Q (.ref l) (upd H l (.lst ys))
theorem call_lst {X : Cx} : CallR X (.type "list") (rListOf X.K) := call_list_of
end K16

set_option maxRecDepth 100000
set_option maxHeartbeats 4000000
namespace K16
open PySem PySem.Spec PyProof.Rows L2 Kw
/-- rows (bases, fields, methods) of a law's own -/
def RowsAt (H : Hp) : List V → List (List Nat) → Prop := Paired fun v bs => ∃ t b g m, v = .ref t ∧ H t = some (.tup [.ref b, g, m]) ∧ SeqAt H b (bs.map natV)
theorem RowsAt.same {H H' : Hp} (s : Same H H') : ∀ {vs : List V} {ls : List (List Nat)}, RowsAt H vs ls → RowsAt H' vs ls
  | [], [], _ => .nil
  | _ :: _, _ :: _, .cons ⟨t, b, g, m, e, h1, h2⟩ r => .cons ⟨t, b, g, m, e, s _ _ h1, h2.same s⟩ (RowsAt.same s r)
theorem RowsAt.get {H : Hp} : ∀ {vs : List V} {ls : List (List Nat)} {i : Nat} {l : List Nat}, RowsAt H vs ls → ls[i]? = some l → ∃ t b g m, vs[i]? = some (.ref t) ∧ H t = some (.tup [.ref b, g, m]) ∧ SeqAt H b (l.map natV)
  | [], [], _, _, _, h => by simp at h
  | _ :: _, _ :: _, 0, _, .cons ⟨t, b, g, m, e1, h⟩ _, e => by
    obtain rfl := Option.some.inj e
    exact ⟨t, b, g, m, by rw [e1]; rfl, h⟩
  | _ :: _, _ :: _, i + 1, _, .cons _ r, e => RowsAt.get (i := i) r e
def ListsAt (H : Hp) : List V → List (List Nat) → Prop := Paired fun v l => ∃ t, v = .ref t ∧ H t = some (.lst (l.map natV))
theorem ListsAt.mono {H H' : Hp} {R : Addr} (k : ∀ b o, b ≠ R → H b = some o → H' b = some o) : ∀ {vs : List V} {ls : List (List Nat)}, (∀ v ∈ vs, v ≠ .ref R) → ListsAt H vs ls → ListsAt H' vs ls
  | [], [], _, _ => .nil
  | v :: _, _ :: _, n, .cons ⟨t, e, h⟩ r => .cons ⟨t, e, k _ _ (fun z => n v List.mem_cons_self (by rw [e, z])) h⟩ (ListsAt.mono k (fun v hv => n v (List.mem_cons_of_mem _ hv)) r)
theorem ListsAt.get {H : Hp} : ∀ {vs : List V} {ls : List (List Nat)} {i : Nat} {l : List Nat}, ListsAt H vs ls → ls[i]? = some l → ∃ t, vs[i]? = some (.ref t) ∧ H t = some (.lst (l.map natV))
  | [], [], _, _, _, h => by simp at h
  | _ :: _, _ :: _, 0, _, .cons ⟨t, e1, h⟩ _, e => by
    obtain rfl := Option.some.inj e
    exact ⟨t, by rw [e1]; rfl, h⟩
  | _ :: _, _ :: _, i + 1, _, .cons _ r, e => ListsAt.get (i := i) r e
theorem ListsAt.app {H : Hp} : ∀ {vs us : List V} {ls ms : List (List Nat)}, ListsAt H vs ls → ListsAt H us ms → ListsAt H (vs ++ us) (ls ++ ms)
  | [], _, [], _, _, h => h
  | _ :: _, _, _ :: _, _, .cons h r, s => .cons h (ListsAt.app r s)
theorem ListsAt.len {H : Hp} {vs : List V} {ls : List (List Nat)} (h : ListsAt H vs ls) : vs.length = ls.length := Paired.length h
/-- ascending lists with the same things in them -/
theorem asc_one {a : List Int} {b : List Nat} (ha : a.Pairwise (· < ·)) (hb : b.Pairwise (· < ·)) (hm : ∀ k : Int, k ∈ a ↔ ∃ n : Nat, n ∈ b ∧ k = (n : Int)) : a.map V.int = b.map natV := by
  have hb2 : (b.map fun (n : Nat) => (n : Int)).Pairwise (· < ·) := List.pairwise_map.mpr (hb.imp fun h => by omega)
  have p : a.Perm (b.map fun (n : Nat) => (n : Int)) := (List.perm_ext_iff_of_nodup (ha.imp fun h => Int.ne_of_lt h) (hb2.imp fun h => Int.ne_of_lt h)).mpr fun k => by
    rw [hm k, List.mem_map]
    exact ⟨fun ⟨n, h, e⟩ => ⟨n, h, e.symm⟩, fun ⟨n, h, e⟩ => ⟨n, h, e.symm⟩⟩
  have e : a = b.map fun (n : Nat) => (n : Int) := p.eq_of_pairwise (fun x y _ _ h1 h2 => by omega) ha hb2
  rw [e, List.map_map]
  rfl
section
variable {P : Program} {w : World} {K : PySem.W.Frag} {mg : Str → Option Value} {base : Heap} {f : Addr} {fd : FuncData}
/-- over a list or a tuple that stands -/
theorem for_seqS {a : Addr} {xs : List V} {g : TG} {tb : TS} {D : Ends} {σ : L2.St} {H H0 : Hp} {j : Nat} (hj : σ[j]? = some (some (.ref a))) (hA : SeqAt H0 a xs) (s0 : Same H0 H) (Pv : Nat → L2.St → Hp → Prop) (h0 : Pv 0 σ H) (keep : ∀ i σ' H', Pv i σ' H' → Same H0 H')
    (hs : ∀ i x σ H, xs[i]? = some x → Pv i σ H → g x σ H fun σ2 H2 => tb { D with nx := Pv (i + 1), ct := Pv (i + 1), bk := D.nx } σ2 H2) (hd : ∀ σ H, Pv xs.length σ H → D.nx σ H) :
    tFor (fun σ H R => iList K (tVar j) σ H R ∨ iTup K (tVar j) σ H R) g tb D σ H := by
  rcases hA with hA | hA
  · exact .inl ⟨_, hj, a, rfl, ⟨_, SqL.of (s0 _ _ hA)⟩, for_list (K := K) (a := a) (xs := xs) Pv h0 (fun i σ H' _ h => SqL.of (keep i σ H' h _ _ hA)) hs hd⟩
  · exact .inr ⟨_, hj, a, rfl, ⟨_, SqT.of (s0 _ _ hA)⟩, for_tup (K := K) (a := a) (xs := xs) Pv h0 (fun i σ H' _ h => SqT.of (keep i σ H' h _ _ hA)) hs hd⟩
def spLElders : Sp := fun vs H Q _ => ∃ (a : Addr) (ws : List V) (bs : List (List Nat)), vs = [.ref a] ∧ H a = some (.lst ws) ∧ RowsAt H ws bs ∧ validB bs ∧ bs.length ≤ 64 ∧ (∀ row ∈ bs, row.length * bs.length < 64) ∧
  ∀ H' l us, Same H H' → H l = none → H' l = some (.lst us) → (∀ v ∈ us, v ≠ .ref l) → ListsAt H' us (elders bs) → Q (.ref l) H'
theorem sc_lelders : FnScope ["_law_rows", "_law_found", "_law_bases_here", "_law_fields", "_law_methods_here", "_law_mine", "_law_base"] ["_law_rows"] (defScope (top 51)) := ⟨rfl, rfl, rfl, by decide +kernel, rfl, by decide +kernel, by decide +kernel⟩
theorem ok_lelders (F : FnP K "_law_elders" 51 f fd) (B : Fr mg) : FnOk P w K mg base CX0 1 f fd ["_law_rows"] spLElders := by
  refine F.ok sc_lelders (fun vs H Q E h => ?_) (fun cdv A outer s H vs Q E hr h => ?_)
  · obtain ⟨a, ws, bs, rfl, _⟩ := h
    rfl
  · obtain ⟨a, ws, bs, rfl, hA, hT, hv, h64, hr64, k⟩ := h
    refine ⟨_, PSs.nox (pss_cons (ps_set (i := 1) sc_lelders.nd rfl (Or.inl rfl) (pe_lst pa_nil))
      (pss_cons (ps_for PassesOwn.never rfl (pi_list (pv 0)) (pg_tup (by rfl) (pgs_cons (pg_name (i := 2) sc_lelders.nd rfl (Or.inl rfl)) (pgs_cons (pg_name (i := 3) sc_lelders.nd rfl (Or.inl rfl)) (pgs_cons (pg_name (i := 4) sc_lelders.nd rfl (Or.inl rfl)) pgs_nil))))
        (pss_cons (ps_set (i := 5) sc_lelders.nd rfl (Or.inl rfl) (pe_lst pa_nil))
        (pss_cons (ps_for PassesOwn.never rfl (pi_or (pi_list (pv 2)) (pi_tup (pv 2))) (pg_name (i := 6) sc_lelders.nd rfl (Or.inl rfl))
          (pss_one (ps_set (i := 5) sc_lelders.nd rfl (Or.inl rfl) (pe_op op_cat (pe_op op_cat (pv 5) (pe_lst (pa_cons (pv 6) pa_nil))) (pe_ix ix_list (pv 1) (pv 6) (fun _ _ => rfl))))))
        (pss_one (ps_expr (pe_bm PySem.F.plainAttrs_list PySem.F.slot_list_append PySem.F.type_list_append mt_append (pv 1) (pa_cons (pe_callB (cr_sortedSet rfl) (by rfl) B.sorted (by decide +kernel) (pa_cons (pe_callTy (T := "set") (r := rSetSI K w) (call_setSI (X := _) rfl) (by rfl) B.set (by decide +kernel) (pa_cons (pv 5) pa_nil)) pa_nil)) pa_nil)))))))
      (pss_one (ps_ret (pv 1))))), ?_⟩
    refine ⟨by decide, fun R hR => ?_⟩
    refine ⟨_, rfl, a, rfl, ⟨_, SqL.of (same_new hR _ _ hA)⟩, for_list (K := K) (a := a) (xs := ws) (fun i σ H' => Same H H' ∧ ∃ us x2 x3 x4 x5 x6, σ = [some (.ref a), some (.ref R), x2, x3, x4, x5, x6] ∧ H' R = some (.lst us) ∧ (∀ v ∈ us, v ≠ .ref R) ∧ ListsAt H' us (elders (bs.take i)))
      ⟨same_new hR, [], none, none, none, none, none, rfl, upd_same, (fun v hv => by cases hv), .nil⟩ (fun i σ H' _ h => SqL.of (h.1 _ _ hA)) ?_ ?_⟩
    · rintro i y σ H' hi ⟨sH, us, x2, x3, x4, x5, x6, rfl, hRu, hne, hU⟩
      have hbl : ws.length = bs.length := Paired.length hT
      have hil : i < bs.length := by
        rw [← hbl]
        exact (List.getElem?_eq_some_iff.mp hi).1
      obtain ⟨row, hrow⟩ : ∃ row, bs[i]? = some row := ⟨_, List.getElem?_eq_getElem hil⟩
      obtain ⟨t, b, g, m, et, ht, hb⟩ := hT.get hrow
      obtain rfl : V.ref t = y := Option.some.inj (et.symm.trans hi)
      have hE : (elders (bs.take i)).length = i := by rw [elders_len, List.length_take, Nat.min_eq_left (Nat.le_of_lt hil)]
      have hlt : ∀ c ∈ row, c < i := hv i row hrow
      have hr6 : row.length * bs.length < 64 := hr64 row (List.mem_of_getElem? hrow)
      have hus : us.length = i := hU.len.trans hE
      refine ⟨t, _, rfl, SqT.of (sH _ _ ht), rfl, _, _, rfl, _, _, rfl, _, _, rfl, rfl, ?_⟩
      refine ⟨by decide, fun M hM => ?_⟩
      have sM : Same H' (upd H' M (.lst [])) := same_new hM
      refine for_seqS (K := K) (a := b) (xs := row.map natV) rfl hb (sH.trans sM) (fun j σ H3 => Same H' H3 ∧ ∃ M x6 mi, σ = [some (.ref a), some (.ref R), some (.ref b), some g, some m, some (.ref M), x6] ∧ H3 M = some (.lst (mi.map natV)) ∧ mi.length ≤ j * bs.length ∧ ∀ x, x ∈ mi ↔ ∃ c ∈ row.take j, x = c ∨ x ∈ (elders (bs.take i)).getD c [])
        ⟨sM, M, x6, [], rfl, upd_same, Nat.zero_le _, fun x => by simp⟩ (fun j σ H3 h => sH.trans h.1) ?_ ?_
      · rintro j y σ H3 hj ⟨s3, M, x6, mi, rfl, hMi, hml, hmem⟩
        rw [List.getElem?_map] at hj
        obtain ⟨c, hc, rfl⟩ := Option.map_eq_some_iff.mp hj
        have hjl : j < row.length := (List.getElem?_eq_some_iff.mp hc).1
        have hci : c < i := hlt c (List.mem_of_getElem? hc)
        obtain ⟨l, hl⟩ : ∃ l, (elders (bs.take i))[c]? = some l := ⟨_, List.getElem?_eq_getElem (by rw [hE]; exact hci)⟩
        have hgd : (elders (bs.take i)).getD c [] = l := by
          rw [List.getD_eq_getElem?_getD, hl]
          rfl
        have hll : l.length + 1 ≤ bs.length := by
          have := elders_len_row _ _ _ hl
          rw [List.length_take] at this
          omega
        have hmle : mi.length + (1 + l.length) ≤ (j + 1) * bs.length := by
          rw [Nat.succ_mul]
          omega
        have hbig : (j + 1) * bs.length < 64 := Nat.lt_of_le_of_lt (Nat.mul_le_mul_right _ hjl) hr6
        obtain ⟨q, eq, hq⟩ := hU.get hl
        refine ⟨_, rfl, _, rfl, (by show 1 ≤ 2 ^ 24; decide), fun L hL => ?_⟩
        have sL := same_new (o := .lst [natV c]) hL
        refine ⟨M, L, _, _, rfl, rfl, sL _ _ hMi, upd_same, ?_, fun N1 hN1 => ?_⟩
        · rw [List.length_map]
          show mi.length + 1 ≤ 2 ^ 24
          omega
        have s1 := same_new (o := .lst (mi.map natV ++ [natV c])) hN1
        have sA : Same H' (upd (upd H3 L (.lst [natV c])) N1 (.lst (mi.map natV ++ [natV c]))) := (s3.trans sL).trans s1
        refine ⟨_, rfl, _, rfl, R, us, _, _, rfl, rfl, SqL.of (sA _ _ hRu), atI_nat eq, ?_⟩
        refine ⟨N1, q, _, _, rfl, rfl, upd_same, sA _ _ hq, ?_, fun N2 hN2 => ?_⟩
        · rw [List.length_append, List.length_map, List.length_map]
          show mi.length + 1 + l.length ≤ 2 ^ 24
          omega
        · refine ⟨Same.trans sA (same_new hN2), N2, _, mi ++ [c] ++ l, rfl, ?_, ?_, fun x => ?_⟩
          · rw [upd_same, List.map_append, List.map_append]
            rfl
          · rw [List.length_append, List.length_append]
            show mi.length + 1 + l.length ≤ _
            omega
          · rw [List.take_add_one, hc, Option.toList_some, List.mem_append, List.mem_append, hmem, List.mem_singleton]
            constructor
            · rintro ((⟨d, hd, h⟩ | h) | h)
              · exact ⟨d, List.mem_append_left _ hd, h⟩
              · exact ⟨c, List.mem_append_right _ (List.mem_singleton.mpr rfl), .inl h⟩
              · exact ⟨c, List.mem_append_right _ (List.mem_singleton.mpr rfl), .inr (by rw [hgd]; exact h)⟩
            · rintro ⟨d, hd, h⟩
              rcases List.mem_append.mp hd with hd | hd
              · exact .inl (.inl ⟨d, hd, h⟩)
              · obtain rfl := List.mem_singleton.mp hd
                rcases h with h | h
                · exact .inl (.inr h)
                · rw [hgd] at h
                  exact .inr h
      · rintro σ H3 ⟨s3, M, x6, mi, rfl, hMi, hml, hmem⟩
        rw [List.length_map] at hml
        rw [List.length_map, List.take_length] at hmem
        refine ⟨_, rfl, .inl ⟨rfl, _, SqL.of (s3 _ _ hRu)⟩, _, rfl, M, mi.map (fun (n : Nat) => (n : Int)), rfl, .inl ?_, ?_, fun S c hS hc => ?_⟩
        · rw [List.map_map]
          exact SqL.of hMi
        · rw [List.length_map]
          omega
        · rw [List.length_map] at hc
          have sS := same_new (o := SetO w S (fun j => decide (j ∈ mi.map (fun (n : Nat) => (n : Int)))) c) hS
          refine ⟨S, _, c, rfl, upd_same, by omega, fun ns L asc hns hlen hL => ?_⟩
          have sL := same_new (o := .lst (ns.map V.int)) hL
          have sA : Same H' (upd (upd H3 S (SetO w S (fun j => decide (j ∈ mi.map (fun (n : Nat) => (n : Int)))) c)) L (.lst (ns.map V.int))) := (s3.trans sS).trans sL
          have ens : ns.map V.int = (elStep (elders (bs.take i)) row).map natV := asc_one asc (elStep_up _ _) fun k => by
            rw [hns k, decide_eq_true_iff, List.mem_map]
            constructor
            · rintro ⟨n, hn, e⟩
              exact ⟨n, (elStep_mem (fun b hb => by rw [hE]; exact hlt b hb) (elders_lt _) n).mpr ((hmem n).mp hn), e.symm⟩
            · rintro ⟨n, hn, e⟩
              exact ⟨n, (hmem n).mpr ((elStep_mem (fun b hb => by rw [hE]; exact hlt b hb) (elders_lt _) n).mp hn), e.symm⟩
          have neL : L ≠ R := fun z => by
            have y := (Same.trans s3 sS) _ _ hRu
            rw [← z, hL] at y
            cases y
          refine ⟨R, us, _, rfl, rfl, sA _ _ hRu, by rw [hus]; show i < 2 ^ 24; omega, same_upd (sH.trans sA) hR, us ++ [.ref L], _, _, _, _, _, rfl, upd_same, ?_, ?_⟩
          · intro v hv
            rcases List.mem_append.mp hv with hv | hv
            · exact hne v hv
            · rw [List.mem_singleton.mp hv]
              exact fun z => neL (V.ref.inj z)
          · rw [elders_more hrow]
            refine (ListsAt.mono (R := R) (fun b o hb e => upB hb (sA _ _ e)) hne hU).app (.cons ⟨L, rfl, ?_⟩ .nil)
            rw [← ens]
            exact upB neL upd_same
    · rintro σ H' ⟨sH, us, x2, x3, x4, x5, x6, rfl, hRu, hne, hU⟩
      have hbl : ws.length = bs.length := Paired.length hT
      rw [hbl, List.take_length] at hU
      exact ⟨_, rfl, k H' R us sH hR hRu hne hU⟩
end
end K16

set_option maxRecDepth 100000
set_option maxHeartbeats 4000000
namespace K16
open PySem PySem.Spec PyProof.Rows L2 Kw
section
variable {P : Program} {w : World} {K : PySem.W.Frag} {mg : Str → Option Value} {base : Heap} {f fT fM : Addr} {fd fdT fdM : FuncData}
def spMethods : Sp := fun vs H Q _ => ∃ (p q : Addr), vs = [.ref p] ∧ HandAt H p q ∧
  ∀ l H' (ms : List Nat), Oth p H H' → HandAt H' p q → H l = none → H' l = some (.lst (ms.map natV)) → ms.Pairwise (· < ·) → (∀ m ∈ ms, m < 6) → ms.length ≤ 3 → Q (.ref l) H'
theorem sc_methods : FnScope ["_law_hand_here", "_law_found", "_law_step"] ["_law_hand_here"] (defScope (top 48)) := ⟨rfl, rfl, rfl, by decide +kernel, rfl, by decide +kernel, by decide +kernel⟩
theorem ok_methods (F : FnP K "_law_methods" 48 f fd) (B : Fr mg) (FT : FnP K "_law_take" 46 fT fdT) (mT : mg "_law_take" = some (.ref fT)) (FM : FnP K "_law_mixed" 45 fM fdM) (mM : mg "_law_mixed" = some (.ref fM)) :
    FnOk P w K mg base CX0 3 f fd ["_law_hand_here"] spMethods := by
  have GT : FnOk P w K mg base CX0 2 fT fdT ["_law_hand_here", "_law_many"] spTake := ok_take FT FM mM B.int B.len
  have bT : L2.Binds K fdT ["_law_hand_here", "_law_many"] [] := FT.bindsN fun _ _ _ _ _ _ us hl => match us, hl with | [_, _], _ => rfl
  refine F.ok sc_methods (fun vs H Q E h => ?_) (fun cdv A outer s H vs Q E hr h => ?_)
  · obtain ⟨p, q, rfl, _⟩ := h
    rfl
  · obtain ⟨p, q, rfl, hh, k⟩ := h
    refine ⟨_, PSs.nox (pss_cons (ps_set (i := 1) sc_methods.nd rfl (Or.inl rfl) (pe_lst pa_nil))
      (pss_cons (ps_for PassesOwn.never rfl (pi_range1 (by rfl) B.range (pa_cons (pe_ix ix_tup (pe_tup (pa_cons pe_int (pa_cons pe_int (pa_cons pe_int (pa_cons pe_int (pa_cons pe_int (pa_cons pe_int pa_nil))))))) (pe_call GT hr (by rfl) mT FT.kp bT .nil pass0 (pa_cons (pv 0) (pa_cons pe_int pa_nil))) (fun _ _ => rfl)) pa_nil)) (pg_name (i := 2) sc_methods.nd rfl (Or.inl rfl))
        (pss_one (ps_expr (pe_bm PySem.F.plainAttrs_list PySem.F.slot_list_append PySem.F.type_list_append mt_append (pv 1) (pa_cons (pe_call GT hr (by rfl) mT FT.kp bT .nil pass0 (pa_cons (pv 0) (pa_cons pe_int pa_nil))) pa_nil)))))
      (pss_one (ps_ret (pe_callB (cr_sortedSet rfl) (by rfl) B.sorted (by decide +kernel) (pa_cons (pe_callTy (T := "set") (r := rSetSI K w) (call_setSI (X := _) rfl) (by rfl) B.set (by decide +kernel) (pa_cons (pv 1) pa_nil)) pa_nil)))))), ?_⟩
    refine ⟨by decide, fun l hl => ?_⟩
    obtain ⟨lp, lq⟩ := hh.ne hl
    have h1 : HandAt (upd H l (.lst [])) p q := hh.upd lp lq
    refine ⟨by (show 6 ≤ sizeLine); decide, fun t ht => ?_⟩
    obtain ⟨tp, tq⟩ := h1.ne ht
    have tl : t ≠ l := fun z => by
      rw [z, upd_same] at ht
      cases ht
    refine ⟨_, rfl, p, q, 6, rfl, by decide, by decide, h1.upd tp tq, fun r H2 r0 r1 h2 e2 => ?_⟩
    obtain ⟨v, hv, hm⟩ := tab_at (tab := [0, 1, 0, 2, 1, 3]) r0 r1
    have hv3 : 0 ≤ v ∧ v ≤ 3 := (by decide : ∀ v ∈ ([0, 1, 0, 2, 1, 3] : List Int), 0 ≤ v ∧ v ≤ 3) v hm
    have T2 : H2 t = some (.tup (([0, 1, 0, 2, 1, 3] : List Int).map V.int)) := by
      rw [e2 t tp]
      exact upd_same
    have O2 : Oth p H H2 := fun b o nb e => by
      rw [e2 b nb]
      exact upB (ne_of_none (upB (ne_of_none e hl) e) ht) (upB (ne_of_none e hl) e)
    have L2' : H2 l = some (.lst []) := by
      rw [e2 l lp]
      exact upB tl.symm upd_same
    refine ⟨t, _, r, _, rfl, rfl, SqT.of T2, hv, v, rfl, by omega, by omega, for_range (n := v.toNat) (fun i σ H' => ∃ (ms : List Nat) (x2 : Option V), σ = [some (.ref p), some (.ref l), x2] ∧ HandAt H' p q ∧ Oth p H H' ∧ H' l = some (.lst (ms.map natV)) ∧ (∀ m ∈ ms, m < 6) ∧ ms.length = i)
      ⟨[], none, rfl, h2, O2, L2', fun b hb => (by cases hb), rfl⟩ ?_ ?_⟩
    · rintro i σ H3 hi ⟨ms, x2, rfl, h3, O3, L3, hb, hl3⟩
      refine ⟨_, rfl, .inl ⟨rfl, _, SqL.of L3⟩, _, rfl, p, q, 6, rfl, by decide, by decide, h3, fun r H4 r0 r1 h4 e4 => ?_⟩
      obtain ⟨b, rfl⟩ : ∃ b : Nat, r = (b : Int) := ⟨r.toNat, by omega⟩
      have L4 : H4 l = some (.lst (ms.map natV)) := by
        rw [e4 l lp]
        exact L3
      refine ⟨l, _, _, rfl, rfl, L4, ?_, ms ++ [b], _, rfl, h4.upd lp lq, fun a o na e => upB (ne_of_none e hl) (by rw [e4 a na]; exact O3 a o na e), ?_, ?_, ?_⟩
      · rw [List.length_map]
        show _ < 2 ^ 24
        omega
      · rw [upd_same, List.map_append]
        rfl
      · intro a ha
        rcases List.mem_append.mp ha with ha | ha
        · exact hb a ha
        · rw [List.mem_singleton.mp ha]
          omega
      · rw [List.length_append, hl3]
        rfl
    · rintro σ H3 ⟨ms, x2, rfl, h3, O3, L3, hb, hl3⟩
      refine ⟨_, rfl, l, ms.map (fun (n : Nat) => (n : Int)), rfl, .inl ?_, ?_, fun S c hS hc => ?_⟩
      · rw [List.map_map]
        exact SqL.of L3
      · rw [List.length_map]
        omega
      · rw [List.length_map] at hc
        have sS := same_new (o := SetO w S (fun j => decide (j ∈ ms.map (fun (n : Nat) => (n : Int)))) c) hS
        refine ⟨S, _, c, rfl, upd_same, by omega, fun ns L asc hns hlen hL => ?_⟩
        have sL := same_new (o := .lst (ns.map V.int)) hL
        have ens : ns.map V.int = (sortN ms).map natV := asc_one asc (List.Pairwise.filter _ List.pairwise_lt_range) fun k => by
          rw [hns k, decide_eq_true_iff, List.mem_map]
          constructor
          · rintro ⟨n, hn, e⟩
            exact ⟨n, List.mem_filter.mpr ⟨List.mem_range.mpr (hb n hn), by simpa using hn⟩, e.symm⟩
          · rintro ⟨n, hn, e⟩
            exact ⟨n, by simpa using (List.mem_filter.mp hn).2, e.symm⟩
        have nl : (sortN ms).length = c := by
          have z := congrArg List.length ens
          rw [List.length_map, List.length_map] at z
          omega
        have hLn : H L = none := by
          cases e : H L with
          | none => rfl
          | some o =>
            by_cases z : L = p
            · obtain ⟨cs, i, r, t, h1, _⟩ := h3
              have y := sS _ _ h1
              rw [← z, hL] at y
              cases y
            · have y := sS _ _ (O3 L o z e)
              rw [hL] at y
              cases y
        refine k L _ (sortN ms) ((O3.trans (Oth.of sS)).trans (Oth.of sL)) ((h3.same sS).same sL) hLn (by rw [upd_same, ens]) (List.Pairwise.filter _ List.pairwise_lt_range) (fun m hm => List.mem_range.mp (List.mem_filter.mp hm).1) (by omega)
end
end K16

set_option maxRecDepth 100000
set_option maxHeartbeats 4000000
namespace K16
open PySem PySem.Spec PyProof.Rows L2 Kw
/-- the facts of a world that others read: the object's fields -/
theorem WorldAt.mono {H H' : Hp} {p C : Addr} {ds : List Ent} (h : WorldAt H p C ds) (s : Same H H') : WorldAt H' p C ds := by
  obtain ⟨dx, ac, ab, ao, am, ae, ah, cs, bs, ms, es, hs, h1, h2, h3, h4, h5, h6, h7, h8, h9, h10, h11, h12⟩ := h
  exact ⟨dx, ac, ab, ao, am, ae, ah, cs, bs, ms, es, hs, s _ _ h1, s _ _ h2, h3.mono (Same.tupK s), s _ _ h4, h5.mono (Same.tupK s), s _ _ h6, s _ _ h7, h8.mono (Same.tupK s), s _ _ h9, h10.mono (Same.tupK s), s _ _ h11, h12.mono (Same.tupK s)⟩
section
variable {P : Program} {w : World} {K : PySem.W.Frag} {mg : Str → Option Value} {base : Heap} {f fW fN fC C Cn : Addr} {fd fdW fdN fdC : FuncData}
theorem sc_noClass : FnScope ["self", "cls"] ["self", "cls"] (defScope (inClass (top 5) 0)) := ⟨rfl, rfl, rfl, by decide +kernel, rfl, by decide +kernel, by decide +kernel⟩
theorem ok_noClass (F : FnM K "__init__" "NoClass.__init__" (inClass (top 5) 0) f fd) (T : ErrX K mg "NoClass" ["cls"] C f) : FnOk P w K mg base CX0 1 f fd ["self", "cls"] (spR C ["cls"]) ∧ Binds K fd ["self", "cls"] [] := by
  refine ⟨F.ok sc_noClass (fun vs H Q E h => ?_) (fun cdv A outer s H vs Q E hr h => ?_), F.bindsN fun _ _ _ _ _ _ us hl => match us, hl with | [_, _], _ => rfl⟩
  · obtain ⟨a, xs, rfl, hl, _⟩ := h
    exact congrArg Nat.succ hl
  · obtain ⟨a, xs, rfl, hl, ha, k⟩ := h
    match xs, hl with
    | [x1], _ =>
      refine ⟨_, PSs.nox (pss_one (ps_ost (pv 0) (pv 1))), ?_⟩
      refine ⟨_, rfl, _, rfl, a, C, rfl, T.oex, T.no _ (List.mem_of_getElem? (i := 0) rfl), .inl ⟨ha, fun dx hd ne => ?_⟩⟩
      exact k dx _ hd ne upd_same (upB ne upd_same) fun b o hb e => upB hb (upB (ne_of_none e hd) e)
/-- a class is told, or NoClass -/
def spCheck (C Cn : Addr) : Sp := fun vs H Q E => ∃ (p : Addr) (c : V) (t : String) (ds : List Ent), vs = [.ref p, c] ∧ WorldAt H p C ds ∧ Ty0 H c t ∧
  ((wholeB (.int 0) (.int ((ds.length : Int) - 1)) c = true ∧ ∀ H', Same H H' → Q c H') ∨
   (wholeB (.int 0) (.int ((ds.length : Int) - 1)) c = false ∧ ∀ d H', Same H H' → H' d = some (.xd (errF ["cls"] [c])) → E (.ref Cn) (some d) H'))
theorem sc_check : FnScope ["world", "c"] ["world", "c"] (defScope (top 15)) := ⟨rfl, rfl, rfl, by decide +kernel, rfl, by decide +kernel, by decide +kernel⟩
theorem ok_check (F : FnP K "check_class" 15 f fd) (B : Fr mg) (TC : ClsWorld K mg C) (FW : FnDf K "is_whole" 12 [.non, .non] fW fdW) (mW : mg "is_whole" = some (.ref fW)) (FN : FnM K "__init__" "NoClass.__init__" (inClass (top 5) 0) fN fdN) (TN : ErrX K mg "NoClass" ["cls"] Cn fN) :
    FnOk P w K mg base (L2.CX P w) 3 f fd ["world", "c"] (spCheck C Cn) := by
  have GW : FnOk P w K mg base CX0 1 fW fdW ["thing", "low", "high"] spWhole := ok_whole FW B
  obtain ⟨GN, bN⟩ : FnOk P w K mg base CX0 1 fN fdN ["self", "cls"] (spR Cn ["cls"]) ∧ Binds K fdN ["self", "cls"] [] := ok_noClass FN TN
  have bW := binds_whole3 FW
  refine F.ok sc_check (fun vs H Q E h => ?_) (fun cdv A outer s H vs Q E hr h => ?_)
  · obtain ⟨p, c, t, ds, rfl, _⟩ := h
    rfl
  · obtain ⟨p, c, t, ds, rfl, hw, ty, h⟩ := h
    have hw0 := hw
    obtain ⟨dx, ac, ab, ao, am, ae, ah, cs, bs, ms, es, hs, h1, h2, h3, _⟩ := hw
    refine ⟨_, (pss_cons (ps_if (pt_not (pt_val (pe_call GW (hr.mono (by decide)) (by rfl) mW FW.kp bW .nil pass0 (pa_cons (pv 1) (pa_cons pe_int (pa_cons (pe_op op_sub (pe_callB call_len_seq (by rfl) B.len PySem.boot_len (pa_cons (pe_fld (pv 0) rfl) pa_nil)) pe_int) pa_nil))))))
        (pss_one (ps_raise rfl (takes_of rfl rfl rfl rfl) (pmk_oex TN.oex TN.ini TN.inT GN (hr.mono (by decide)) bN .nil pass0 (by rfl) TN.mg (pa_cons (pv 1) pa_nil)))) pss_nil)
      (pss_one (ps_ret (pv 1)))), ?_⟩
    refine ⟨_, rfl, _, rfl, p, C, dx, _, _, rfl, h1, TC.cl, TC.no _ (List.mem_of_getElem? (i := 0) rfl), rfl, ac, cs, rfl, .inr (SqT.of h2), _, _, rfl, rfl, c, _, _, t, rfl, ty, .inr ⟨_, rfl⟩, .inr ⟨_, rfl⟩, _, rfl, ?_⟩
    rw [h3.len]
    rcases h with ⟨e, k⟩ | ⟨e, k⟩
    · rw [e]
      exact iteF ⟨_, rfl, k H (Same.refl H)⟩
    · rw [e]
      exact iteT ⟨_, rfl, raise_q rfl (by decide) fun d H' s1 _ e => k d H' s1 e⟩
end
end K16

set_option maxRecDepth 100000
set_option maxHeartbeats 4000000
namespace K16
open PySem PySem.Spec PyProof.Rows L2 Kw
def onLine (els : List (List Nat)) (x y : Nat) : Bool := decide (x = y) || ((els.getD y []).contains x || (els.getD x []).contains y)
def elsOf (ds : List Ent) : List (List Nat) := elders (ds.map (·.1))
theorem elsOf_len (ds : List Ent) : (elsOf ds).length = ds.length := by
  unfold elsOf
  rw [elders_len, List.length_map]
theorem WorldAt.elder {H : Hp} {p C : Addr} {ds : List Ent} (h : WorldAt H p C ds) {x : Nat} (hx : x < ds.length) : ∃ (dx : Addr) (fs : List (Str × V)) (ae : Addr) (es : List V) (t : Addr), H p = some (.ins C dx fs) ∧ List.lookup ("elders" : Str) fs = some (V.ref ae) ∧ H ae = some (.tup es) ∧ es[x]? = some (.ref t) ∧ H t = some (.tup (((elsOf ds).getD x []).map natV)) := by
  obtain ⟨dx, ac, ab, ao, am, ae, ah, cs, bs, ms, es, hs, h1, h2, h3, h4, h5, h6, h7, h8, h9, h10, h11, h12⟩ := h
  obtain ⟨l, hl⟩ : ∃ l, (elsOf ds)[x]? = some l := ⟨_, List.getElem?_eq_getElem (by rw [elsOf_len]; exact hx)⟩
  obtain ⟨t, e1, e2⟩ := h10.get hl
  refine ⟨dx, _, ae, es, t, h1, rfl, h9, e1, ?_⟩
  rw [List.getD_eq_getElem?_getD, hl]
  exact e2
theorem whole_nat {n : Nat} {c : V} (h : wholeB (.int 0) (.int ((n : Int) - 1)) c = true) : ∃ x : Nat, c = natV x ∧ x < n := by
  cases c with
  | int i =>
    unfold wholeB inLo inHi at h
    simp only [Bool.and_eq_true, decide_eq_true_eq] at h
    exact ⟨i.toNat, by (show V.int i = V.int _); congr 1; omega, by omega⟩
  | _ => cases h
section
variable {P : Program} {w : World} {K : PySem.W.Frag} {mg : Str → Option Value} {base : Heap} {f fW fN fC C Cn : Addr} {fd fdW fdN fdC : FuncData}
def spOnLine (C Cn : Addr) : Sp := fun vs H Q E => ∃ (p : Addr) (a b : V) (ta tb : String) (ds : List Ent), vs = [.ref p, a, b] ∧ WorldAt H p C ds ∧ Ty0 H a ta ∧ Ty0 H b tb ∧
  ((wholeB (.int 0) (.int ((ds.length : Int) - 1)) a = false ∧ ∀ d H', Same H H' → H' d = some (.xd (errF ["cls"] [a])) → E (.ref Cn) (some d) H') ∨
   (wholeB (.int 0) (.int ((ds.length : Int) - 1)) a = true ∧ wholeB (.int 0) (.int ((ds.length : Int) - 1)) b = false ∧ ∀ d H', Same H H' → H' d = some (.xd (errF ["cls"] [b])) → E (.ref Cn) (some d) H') ∨
   ∃ x y : Nat, a = natV x ∧ b = natV y ∧ x < ds.length ∧ y < ds.length ∧ ∀ H', Same H H' → Q (.bl (onLine (elsOf ds) x y)) H')
theorem sc_onLine : FnScope ["world", "a", "b"] ["world", "a", "b"] (defScope (top 17)) := ⟨rfl, rfl, rfl, by decide +kernel, rfl, by decide +kernel, by decide +kernel⟩
theorem iteT' {c : Bool} {A B : Prop} (h : c = true) (a : A) : if c = true then A else B := by
  rw [if_pos h]
  exact a
theorem iteF' {c : Bool} {A B : Prop} (h : c = false) (b : B) : if c = true then A else B := by
  rw [if_neg (by rw [h]; decide)]
  exact b
theorem whole_of {n x : Nat} (h : x < n) : wholeB (.int 0) (.int ((n : Int) - 1)) (natV x) = true := by
  show wholeB (.int 0) (.int ((n : Int) - 1)) (.int (x : Int)) = true
  unfold wholeB inLo inHi
  simp only [Bool.and_eq_true, decide_eq_true_eq]
  omega
theorem ok_onLine (F : FnP K "on_line" 17 f fd) (B : Fr mg) (TC : ClsWorld K mg C) (FC : FnP K "check_class" 15 fC fdC) (mC : mg "check_class" = some (.ref fC)) (FW : FnDf K "is_whole" 12 [.non, .non] fW fdW) (mW : mg "is_whole" = some (.ref fW)) (FN : FnM K "__init__" "NoClass.__init__" (inClass (top 5) 0) fN fdN) (TN : ErrX K mg "NoClass" ["cls"] Cn fN) :
    FnOk P w K mg base (L2.CX P w) 4 f fd ["world", "a", "b"] (spOnLine C Cn) := by
  have GC : FnOk P w K mg base (L2.CX P w) 3 fC fdC ["world", "c"] (spCheck C Cn) := ok_check FC B TC FW mW FN TN
  have bC : L2.Binds K fdC ["world", "c"] [] := FC.bindsN fun _ _ _ _ _ _ us hl => match us, hl with | [_, _], _ => rfl
  refine F.ok sc_onLine (fun vs H Q E h => ?_) (fun cdv A outer s H vs Q E hr h => ?_)
  · obtain ⟨p, a, b, ta, tb, ds, rfl, _⟩ := h
    rfl
  · obtain ⟨p, a, b, ta, tb, ds, rfl, hw, tya, tyb, h⟩ := h
    refine ⟨_, (pss_cons (ps_expr (pe_callS GC hr (by rfl) mC FC.kp bC (fun σ => passAt (takes_of rfl rfl rfl rfl) σ) (pa_cons (pv 0) (pa_cons (pv 1) pa_nil))))
      (pss_cons (ps_expr (pe_callS GC hr (by rfl) mC FC.kp bC (fun σ => passAt (takes_of rfl rfl rfl rfl) σ) (pa_cons (pv 0) (pa_cons (pv 2) pa_nil))))
      (pss_one (ps_ret (pe_or (pe_cmp (pc_eqI (pv 1) (pv 2)) rfl) (pe_or (pe_cmpR (r := rIn K false) op_in_seq (pv 1) (pe_ix (r := rIxT K) ix_tup (pe_fld (pv 0) rfl) (pv 2) (fun _ _ => rfl)) (by rfl)) (pe_one (pe_cmpR (r := rIn K false) op_in_seq (pv 2) (pe_ix (r := rIxT K) ix_tup (pe_fld (pv 0) rfl) (pv 1) (fun _ _ => rfl)) (by rfl))))))))), ?_⟩
    rcases h with ⟨e, k⟩ | ⟨e1, e, k⟩ | ⟨x, y, rfl, rfl, hx, hy, k⟩
    · exact ⟨_, rfl, _, rfl, p, a, ta, ds, rfl, hw, tya, .inr ⟨e, k⟩⟩
    · refine ⟨_, rfl, _, rfl, p, a, ta, ds, rfl, hw, tya, .inl ⟨e1, fun H1 s1 => ?_⟩⟩
      exact ⟨_, rfl, _, rfl, p, b, tb, ds, rfl, hw.mono s1, tyb.same s1, .inr ⟨e, fun d H' s2 z => k d H' (s1.trans s2) z⟩⟩
    · refine ⟨_, rfl, _, rfl, p, _, ta, ds, rfl, hw, tya, .inl ⟨whole_of hx, fun H1 s1 => ?_⟩⟩
      refine ⟨_, rfl, _, rfl, p, _, tb, ds, rfl, hw.mono s1, tyb.same s1, .inl ⟨whole_of hy, fun H2 s2 => ?_⟩⟩
      have hw2 := (hw.mono s1).mono s2
      have k2 := k H2 (s1.trans s2)
      obtain ⟨dx, fs, ae, es, t1, p1, p2, p3, p4, p5⟩ := hw2.elder hy
      obtain ⟨dx', fs', ae', es', t2, q1, q2, q3, q4, q5⟩ := hw2.elder hx
      unfold onLine at k2
      refine ⟨_, rfl, _, rfl, x, y, rfl, rfl, _, rfl, ?_⟩
      by_cases hxy : x = y
      · rw [decide_eq_true hxy, Bool.true_or] at k2
        refine iteT' (decide_eq_true (show (x : Int) = (y : Int) by omega)) k2
      · rw [decide_eq_false hxy, Bool.false_or] at k2
        refine iteF' (decide_eq_false (show ¬ (x : Int) = (y : Int) by omega)) ?_
        refine ⟨_, rfl, _, rfl, p, C, dx, _, _, rfl, p1, TC.cl, TC.no _ (List.mem_of_getElem? (i := 4) rfl), p2, _, rfl, ae, es, (y : Int), _, rfl, rfl, SqT.of p3, atI_nat p4, t1, _, rfl, .inr (SqT.of p5), rfl, flat_nats _, _, rfl, ?_⟩
        have e1 : inV (natV x) (((elsOf ds).getD y []).map natV) = ((elsOf ds).getD y []).contains x := inV_nat _ _
        show (if inV (natV x) (((elsOf ds).getD y []).map natV) = true then _ else _)
        rw [e1]
        cases hc : ((elsOf ds).getD y []).contains x with
        | true =>
          rw [hc, Bool.true_or] at k2
          exact iteT k2
        | false =>
          rw [hc, Bool.false_or] at k2
          refine iteF ⟨_, rfl, _, rfl, p, C, dx', _, _, rfl, q1, TC.cl, TC.no _ (List.mem_of_getElem? (i := 4) rfl), q2, _, rfl, ae', es', (x : Int), _, rfl, rfl, SqT.of q3, atI_nat q4, t2, _, rfl, .inr (SqT.of q5), rfl, flat_nats _, ?_⟩
          have e2 : inV (natV y) (((elsOf ds).getD x []).map natV) = ((elsOf ds).getD x []).contains y := inV_nat _ _
          rw [← e2] at k2
          exact k2
end
end K16

set_option maxRecDepth 100000
set_option maxHeartbeats 4000000
namespace K16
open PySem PySem.Spec PyProof.Rows L2 Kw
/-- tuples and lists of ints stay, but for the object at R -/
def IntsO (o : HO) : Prop := (∃ xs, o = .tup xs) ∨ ∃ ns : List Int, o = .lst (ns.map V.int)
def KeepX (R : Addr) (H H' : Hp) : Prop := ∀ b o, b ≠ R → H b = some o → IntsO o → H' b = some o
theorem KeepX.trans {R : Addr} {H H1 H2 : Hp} (a : KeepX R H H1) (b : KeepX R H1 H2) : KeepX R H H2 := fun c o n e i => b c o n (a c o n e i) i
theorem KeepX.of {R : Addr} {H H1 : Hp} (s : Same H H1) : KeepX R H H1 := fun c o _ e _ => s c o e
theorem KeepX.upd {R : Addr} {H : Hp} {o : HO} : KeepX R H (upd H R o) := fun c u n e _ => by
  rw [upd_ne n]
  exact e
theorem KeepX.oth {R p q : Addr} {H H1 : Hp} (s : Oth p H H1) (h : HandAt H p q) : KeepX R H H1 := fun c o _ e i => by
  refine s c o (fun z => ?_) e
  obtain ⟨cs, i1, r, t, h1, _⟩ := h
  rw [z, h1] at e
  have e := Option.some.inj e
  rcases i with ⟨xs, rfl⟩ | ⟨ns, rfl⟩
  · cases e
  · cases ns with
    | nil => cases e
    | cons n r =>
      injection e with e
      injection e with e _
      cases e
theorem natsI (l : List Nat) : l.map natV = (l.map fun (n : Nat) => (n : Int)).map V.int := by
  rw [List.map_map]
  rfl
theorem ints_o (l : List Nat) : IntsO (.lst (l.map natV)) := .inr ⟨l.map fun (n : Nat) => (n : Int), by rw [natsI]⟩
/-- lists of numbers, none of them at R -/
def LsN (R : Addr) (H : Hp) : List V → List (List Nat) → Prop := Paired fun v l => ∃ t, v = .ref t ∧ t ≠ R ∧ H t = some (.lst (l.map natV))
theorem LsN.keep {R : Addr} {H H' : Hp} (k : KeepX R H H') : ∀ {vs : List V} {ls : List (List Nat)}, LsN R H vs ls → LsN R H' vs ls
  | [], [], _ => .nil
  | _ :: _, _ :: _, .cons ⟨t, e, n, h⟩ r => .cons ⟨t, e, n, k _ _ n h (ints_o _)⟩ (LsN.keep k r)
theorem LsN.get {R : Addr} {H : Hp} : ∀ {vs : List V} {ls : List (List Nat)} {i : Nat} {l : List Nat}, LsN R H vs ls → ls[i]? = some l → ∃ t, vs[i]? = some (.ref t) ∧ t ≠ R ∧ H t = some (.lst (l.map natV))
  | [], [], _, _, _, h => by simp at h
  | _ :: _, _ :: _, 0, _, .cons ⟨t, e1, h⟩ _, e => by
    obtain rfl := Option.some.inj e
    exact ⟨t, by rw [e1]; rfl, h⟩
  | _ :: _, _ :: _, i + 1, _, .cons _ r, e => LsN.get (i := i) r e
theorem LsN.app {R : Addr} {H : Hp} : ∀ {vs us : List V} {ls ms : List (List Nat)}, LsN R H vs ls → LsN R H us ms → LsN R H (vs ++ us) (ls ++ ms)
  | [], _, [], _, _, h => h
  | _ :: _, _, _ :: _, _, .cons h r, s => .cons h (LsN.app r s)
theorem LsN.len {R : Addr} {H : Hp} {vs : List V} {ls : List (List Nat)} (h : LsN R H vs ls) : vs.length = ls.length := Paired.length h
theorem LsN.set {R : Addr} {H : Hp} {t : Addr} {l : List Nat} (n : t ≠ R) (h : H t = some (.lst (l.map natV))) : ∀ {vs : List V} {ls : List (List Nat)} (i : Nat), LsN R H vs ls → LsN R H (vs.set i (.ref t)) (ls.set i l)
  | [], [], _, _ => .nil
  | _ :: _, _ :: _, 0, .cons _ r => .cons ⟨t, rfl, n, h⟩ r
  | _ :: _, _ :: _, i + 1, .cons z r => .cons z (LsN.set n h i r)
theorem LsN.lists {R : Addr} {H : Hp} : ∀ {vs : List V} {ls : List (List Nat)}, LsN R H vs ls → ListsAt H vs ls
  | [], [], _ => .nil
  | _ :: _, _ :: _, .cons ⟨t, e, n, h⟩ r => .cons ⟨t, e, h⟩ (LsN.lists r)
/-- rows of bases as a law draws them -/
def BOk (bs : List (List Nat)) : Prop := ∀ (i : Nat) (row : List Nat), bs[i]? = some row → row.Nodup ∧ (∀ b ∈ row, b < i) ∧ row.length ≤ 3
theorem BOk.app {bs : List (List Nat)} {row : List Nat} (h : BOk bs) (nd : row.Nodup) (hb : ∀ b ∈ row, b < bs.length) (hl : row.length ≤ 3) : BOk (bs ++ [row]) := fun i r e => by
  by_cases q : i < bs.length
  · rw [List.getElem?_append_left q] at e
    exact h i r e
  · rw [List.getElem?_append_right (by omega)] at e
    by_cases q2 : i - bs.length = 0
    · rw [q2] at e
      obtain rfl : row = r := Option.some.inj e
      have : i = bs.length := by omega
      rw [this]
      exact ⟨nd, hb, hl⟩
    · rw [List.getElem?_eq_none (by rw [List.length_singleton]; omega)] at e
      cases e
theorem BOk.set {bs : List (List Nat)} {row : List Nat} {j : Nat} (h : BOk bs) (nd : row.Nodup) (hb : ∀ b ∈ row, b < j) (hl : row.length ≤ 3) : BOk (bs.set j row) := fun i r e => by
  rw [List.getElem?_set] at e
  by_cases q : j = i
  · rw [if_pos q] at e
    split at e
    · obtain rfl : row = r := Option.some.inj e
      rw [← q]
      exact ⟨nd, hb, hl⟩
    · cases e
  · rw [if_neg q] at e
    exact h i r e
theorem BOk.take {bs : List (List Nat)} (h : BOk bs) (n : Nat) : BOk (bs.take n) := fun i r e => by
  rw [List.getElem?_take] at e
  split at e
  · exact h i r e
  · cases e
theorem oth_free {p D : Addr} {H H1 : Hp} (s : Oth p H H1) (n : D ≠ p) (h : H1 D = none) : H D = none := by
  cases e : H D with
  | none => rfl
  | some o =>
    rw [s D o n e] at h
    cases h
theorem Oth.take {p : Addr} {H H1 : Hp} (e2 : ∀ b, b ≠ p → H1 b = H b) : Oth p H H1 := fun b o nb e => (e2 b nb).trans e
/-- written again at a place that was free -/
theorem Oth.updN {p D : Addr} {H H1 : Hp} {o : HO} (s : Oth p H H1) (hD : H D = none) : Oth p H (L2.upd H1 D o) := fun b u nb e => upB (ne_of_none e hD) (s b u nb e)
end K16

set_option maxRecDepth 100000
set_option maxHeartbeats 8000000
namespace K16
open PySem PySem.Spec PyProof.Rows L2 Kw
def shapeTab : List (List (List Nat)) := [[[], [], [0, 1], [], [1, 3], [3, 0], [2, 4]], [[], [], [], [0, 1], [1, 2], [2, 0], [3, 4], [5]], [[], [0], [0], [2, 1], [0], [4, 2], [1, 4], [3, 4]], [[], [0], [0], [0], [1, 2], [2, 3], [3, 1], [4, 3]], [[], [0], [0], [1, 2], [0], [3, 4], [4], [5, 6]], [[], [], [0, 1], [], [2, 3], [0], [5, 3], [4]]]
def bokB (bs : List (List Nat)) : Bool := (List.range bs.length).all fun i => decide (bs.getD i []).Nodup && ((bs.getD i []).all (fun b => decide (b < i)) && decide ((bs.getD i []).length ≤ 3))
theorem bokB_ok {bs : List (List Nat)} (h : bokB bs = true) : BOk bs := fun i r e => by
  have hi : i < bs.length := (List.getElem?_eq_some_iff.mp e).1
  have z := List.all_eq_true.mp h i (List.mem_range.mpr hi)
  rw [List.getD_eq_getElem?_getD, e, Option.getD_some] at z
  simp only [Bool.and_eq_true, decide_eq_true_eq, List.all_eq_true] at z
  exact ⟨z.1, z.2.1, z.2.2⟩
theorem shapeTab_ok : ∀ bs ∈ shapeTab, BOk bs := fun bs h => bokB_ok ((by decide : ∀ bs ∈ shapeTab, bokB bs = true) bs h)
theorem ixN_at {n j : Nat} (hj : j < n) : ixN n (j : Int) = some j := by
  unfold ixN
  rw [if_pos (by omega), if_pos (by omega), Int.toNat_natCast]
def cz (l : List (List Nat)) : List (List Int) := l.map fun r => r.map fun (n : Nat) => (n : Int)
theorem cutV_take (xs : List V) (n : Nat) : cutV xs none (some (n : Int)) = xs.take n := by
  unfold cutV
  rw [HT.sIx_nat, HT.sIx_none, Nat.sub_zero, List.drop_zero]
  by_cases h : n ≤ xs.length
  · rw [Nat.min_eq_left h]
  · rw [Nat.min_eq_right (by omega), List.take_of_length_le (Nat.le_refl _), List.take_of_length_le (by omega)]
section
variable {P : Program} {w : World} {K : PySem.W.Frag} {mg : Str → Option Value} {base : Heap} {f fT fM fB : Addr} {fd fdT fdM fdB : FuncData}
def spShape : Sp := fun vs H Q _ => ∃ (p q : Addr) (n : Nat), vs = [.ref p, .int (n : Int)] ∧ 1 ≤ n ∧ n ≤ 12 ∧ HandAt H p q ∧
  ∀ l H' us (bs : List (List Nat)), Oth p H H' → HandAt H' p q → H l = none → H' l = some (.lst us) → LsN l H' us bs → bs.length = n → BOk bs → Q (.ref l) H'
theorem sc_shape : FnScope ["_law_hand_here", "_law_many", "_law_breed", "_law_c", "_law_rows", "_law_bases_here", "_law_row", "_law_at"] ["_law_hand_here", "_law_many"] (defScope (top 49)) := ⟨rfl, rfl, rfl, by decide +kernel, rfl, by decide +kernel, by decide +kernel⟩
theorem ok_shape (F : FnP K "_law_shape" 49 f fd) (B : Fr mg) (FT : FnP K "_law_take" 46 fT fdT) (mT : mg "_law_take" = some (.ref fT)) (FM : FnP K "_law_mixed" 45 fM fdM) (mM : mg "_law_mixed" = some (.ref fM)) (FB : FnP K "_law_bases" 47 fB fdB) (mB : mg "_law_bases" = some (.ref fB)) :
    FnOk P w K mg base CX0 4 f fd ["_law_hand_here", "_law_many"] spShape := by
  have GT : FnOk P w K mg base CX0 2 fT fdT ["_law_hand_here", "_law_many"] spTake := ok_take FT FM mM B.int B.len
  have bT : L2.Binds K fdT ["_law_hand_here", "_law_many"] [] := FT.bindsN fun _ _ _ _ _ _ us hl => match us, hl with | [_, _], _ => rfl
  have GB : FnOk P w K mg base CX0 3 fB fdB ["_law_hand_here", "_law_c"] spBases := ok_bases FB B FT mT FM mM
  have bB : L2.Binds K fdB ["_law_hand_here", "_law_c"] [] := FB.bindsN fun _ _ _ _ _ _ us hl => match us, hl with | [_, _], _ => rfl
  refine F.ok sc_shape (fun vs H Q E h => ?_) (fun cdv A outer s H vs Q E hr h => ?_)
  · obtain ⟨p, q, n, rfl, _⟩ := h
    rfl
  · obtain ⟨p, q, n, rfl, n1, n12, hh, k⟩ := h
    refine ⟨_, PSs.nox (pss_cons (ps_set (i := 2) sc_shape.nd rfl (Or.inl rfl) (pe_call GT (hr.mono (by decide)) (by rfl) mT FT.kp bT .nil pass0 (pa_cons (pv 0) (pa_cons pe_int pa_nil))))
      (pss_cons (ps_if (pt_cmpR op_lt (pv 2) pe_int (nomark _)) (pss_one (ps_ret
        (pe_lc (own := [("_law_c", 3)]) (g := gName 3) (tt := tYes) rfl sc_shape.nd (pi_range1 (by rfl) B.range (pa_cons (pv 1) pa_nil)) (blkOk_by (N := ["_law_hand_here", "_law_many", "_law_breed", "_law_c", "_law_rows", "_law_bases_here", "_law_row", "_law_at"]) (sc := defScope (top 49)) (by decide +kernel))
          (fun _ _ _ _ _ => pg_name (i := 3) sc_shape.nd rfl (Or.inl rfl)) (fun _ _ _ _ _ => pts_nil)
          (fun _ _ _ _ _ => pe_call GB hr (by rfl) mB FB.kp bB .nil pass0 (pa_cons (pv 0) (pa_cons (pv 3) pa_nil)))))) pss_nil)
      (pss_cons (ps_set (i := 4) sc_shape.nd rfl (Or.inl rfl) (pe_ix ix_list (pe_lit3 (pa_lits2 (pe_lit2 (pa_lits pe_il0 (pa_lits pe_il0 (pa_lits pe_il2 (pa_lits pe_il0 (pa_lits pe_il2 (pa_lits pe_il2 (pa_lits pe_il2 pa_lits_nil))))))))
          (pa_lits2 (pe_lit2 (pa_lits pe_il0 (pa_lits pe_il0 (pa_lits pe_il0 (pa_lits pe_il2 (pa_lits pe_il2 (pa_lits pe_il2 (pa_lits pe_il2 (pa_lits pe_il1 pa_lits_nil)))))))))
          (pa_lits2 (pe_lit2 (pa_lits pe_il0 (pa_lits pe_il1 (pa_lits pe_il1 (pa_lits pe_il2 (pa_lits pe_il1 (pa_lits pe_il2 (pa_lits pe_il2 (pa_lits pe_il2 pa_lits_nil)))))))))
          (pa_lits2 (pe_lit2 (pa_lits pe_il0 (pa_lits pe_il1 (pa_lits pe_il1 (pa_lits pe_il1 (pa_lits pe_il2 (pa_lits pe_il2 (pa_lits pe_il2 (pa_lits pe_il2 pa_lits_nil)))))))))
          (pa_lits2 (pe_lit2 (pa_lits pe_il0 (pa_lits pe_il1 (pa_lits pe_il1 (pa_lits pe_il2 (pa_lits pe_il1 (pa_lits pe_il2 (pa_lits pe_il1 (pa_lits pe_il2 pa_lits_nil)))))))))
          (pa_lits2 (pe_lit2 (pa_lits pe_il0 (pa_lits pe_il0 (pa_lits pe_il2 (pa_lits pe_il0 (pa_lits pe_il2 (pa_lits pe_il1 (pa_lits pe_il2 (pa_lits pe_il1 pa_lits_nil)))))))))
          pa_lits2_nil))))))) (pe_op op_sub (pv 2) pe_int) (fun _ _ => rfl)))
      (pss_cons (ps_setLc (i := 5) (own := [("_law_row", 6)]) (g := gName 6) (tt := tYes) rfl sc_shape.nd rfl rfl (sw_true rfl rfl rfl (by decide +kernel)) (pi_list (pe_slice sl_list (pv 4) po_none (po_some (pv 1)))) (blkOk_by (N := ["_law_hand_here", "_law_many", "_law_breed", "_law_c", "_law_rows", "_law_bases_here", "_law_row", "_law_at"]) (sc := defScope (top 49)) (by decide +kernel))
          (fun _ _ _ _ _ => pg_name (i := 6) sc_shape.nd rfl (Or.inl rfl)) (fun _ _ _ _ _ => pts_nil)
          (fun _ _ _ _ _ => pe_callTy (T := "list") (r := rListOf K) (call_lst (X := _)) (by rfl) B.list (by decide +kernel) (pa_cons (pv 6) pa_nil)))
      (pss_cons (ps_while PassesOwn.never (pt_cmpR op_lt (pe_callB call_len_seq (by rfl) B.len PySem.boot_len (pa_cons (pv 5) pa_nil)) (pv 1) (nomark _))
        (pss_one (ps_expr (pe_bm PySem.F.plainAttrs_list PySem.F.slot_list_append PySem.F.type_list_append mt_append (pv 5) (pa_cons (pe_call GB hr (by rfl) mB FB.kp bB .nil pass0 (pa_cons (pv 0) (pa_cons (pe_callB call_len_seq (by rfl) B.len PySem.boot_len (pa_cons (pv 5) pa_nil)) pa_nil))) pa_nil)))))
      (pss_cons (ps_set (i := 7) sc_shape.nd rfl (Or.inl rfl) (pe_call GT (hr.mono (by decide)) (by rfl) mT FT.kp bT .nil pass0 (pa_cons (pv 0) (pa_cons (pv 1) pa_nil))))
      (pss_cons (ps_if (pt_cmpR op_eq (pe_call GT (hr.mono (by decide)) (by rfl) mT FT.kp bT .nil pass0 (pa_cons (pv 0) (pa_cons pe_int pa_nil))) pe_int (nomark _))
        (pss_one (ps_asg (pe_call GB hr (by rfl) mB FB.kp bB .nil pass0 (pa_cons (pv 0) (pa_cons (pv 7) pa_nil))) (pg_sub (pv 5) (pv 7) set_list (fun _ => rfl)))) pss_nil)
      (pss_one (ps_ret (pv 5)))))))))), ?_⟩
    refine ⟨_, rfl, p, q, 8, rfl, by decide, by decide, hh, fun r H1 r0 r1 h1 e1 => ?_⟩
    have O1 : Oth p H H1 := Oth.take e1
    refine ⟨_, rfl, _, _, rfl, rfl, _, rfl, ?_⟩
    refine ite2 (fun _ => ?_) (fun hr2 => ?_)
    · refine ⟨_, rfl, _, rfl, by omega, by omega, fun D hD => ?_⟩
      obtain ⟨Dp, Dq⟩ := h1.ne hD
      have HD : H D = none := oth_free O1 Dp hD
      refine lc_range (n := n) (fun i H2 => Oth p H H2 ∧ HandAt H2 p q ∧ ∃ us bs, H2 D = some (.lst us) ∧ LsN D H2 us bs ∧ bs.length = i ∧ BOk bs) ⟨O1.updN HD, h1.upd Dp Dq, [], [], upd_same, .nil, rfl, fun i r e => by simp at e⟩ ?_ ?_
      · rintro i H2 hi ⟨O2, h2, us, bs, hDu, hU, hl, hb⟩
        refine ⟨rfl, _, rfl, _, rfl, p, q, i, by (show [V.ref p, V.int (0 + (i : Int))] = _; rw [Int.zero_add]), by omega, h2, fun l H3 row O3 h3 hl3 e3 nd hlt hl3' => ?_⟩
        have lD : l ≠ D := fun z => by
          rw [z, hDu] at hl3
          cases hl3
        have D3 : H3 D = some (.lst us) := O3 _ _ Dp hDu
        refine ⟨us, D3, ?_, (O2.trans O3).updN HD, h3.upd Dp Dq, us ++ [.ref l], bs ++ [row], upd_same, ?_, by rw [List.length_append, hl]; rfl, hb.app nd (by rw [hl]; exact hlt) hl3'⟩
        · rw [hU.len, hl]
          show i < 2 ^ 24
          omega
        · exact ((hU.keep (KeepX.oth O3 h2)).app (.cons ⟨l, rfl, lD, e3⟩ .nil)).keep KeepX.upd
      · rintro H2 ⟨O2, h2, us, bs, hDu, hU, hl, hb⟩
        exact k D H2 us bs O2 h2 HD hDu hU hl hb
    · have r2 : ¬ r < 2 := fun z => hr2 (decide_eq_true z)
      intro T uT H2 s2 hT hTab
      have hTab' : TabsI H2 uT (shapeTab.map cz) := hTab
      refine ⟨_, rfl, _, _, rfl, rfl, ?_⟩
      obtain ⟨j, rfl⟩ : ∃ j : Nat, r = ((j + 2 : Nat) : Int) := ⟨(r - 2).toNat, by omega⟩
      have jl : j < shapeTab.length := by
        show j < 6
        omega
      obtain ⟨tab, htab⟩ : ∃ tab, shapeTab[j]? = some tab := ⟨_, List.getElem?_eq_getElem jl⟩
      have tok := shapeTab_ok tab (List.mem_of_getElem? htab)
      obtain ⟨t, ut, et, h1t, h2t⟩ := hTab'.get (i := j) (l := cz tab) (by rw [List.getElem?_map, htab]; rfl)
      refine ⟨T, uT, _, _, rfl, rfl, SqL.of hT, by rw [show ((j + 2 : Nat) : Int) - 2 = (j : Int) by omega]; exact atI_nat et, ?_⟩
      have O2 : Oth p H H2 := O1.trans (Oth.of s2)
      have hh2 := h1.same s2
      refine ⟨_, rfl, _, rfl, _, rfl, t, ut, rfl, SqL.of h1t, fun S hS => ?_⟩
      rw [cutV_take]
      have sS : Same H2 (upd H2 S (.lst (ut.take n))) := same_new hS
      refine ⟨S, rfl, ⟨_, SqL.of upd_same⟩, fun D hD => ?_⟩
      have hD2 : H2 D = none := by
        cases e : H2 D with
        | none => rfl
        | some o =>
          rw [sS _ _ e] at hD
          cases hD
      obtain ⟨Dp, Dq⟩ := hh2.ne hD2
      have HD : H D = none := oth_free O2 Dp hD2
      have sD := same_new (o := .lst []) hD
      refine lc_list (K := K) (a := S) (xs := ut.take n) (fun i H3 => Same (upd H2 S (.lst (ut.take n))) H3 ∧ ∃ us, H3 D = some (.lst us) ∧ LsN D H3 us ((tab.take n).take i)) ⟨sD, [], upd_same, .nil⟩ (fun i H3 _ h => SqL.of (h.1 _ _ upd_same)) ?_ ?_
      · rintro i y H3 hi ⟨s3, us, hDu, hU⟩
        have lut : ut.length = tab.length := by
          have := Paired.length h2t
          unfold cz at this
          rw [List.length_map] at this
          exact this
        have hi1 : i < (tab.take n).length := by
          have := (List.getElem?_eq_some_iff.mp hi).1
          rw [List.length_take] at this ⊢
          omega
        have hin : i < n := by
          rw [List.length_take] at hi1
          omega
        obtain ⟨row, hrow⟩ : ∃ row, (tab.take n)[i]? = some row := ⟨_, List.getElem?_eq_getElem hi1⟩
        have hrow0 : tab[i]? = some row := by
          rw [List.getElem?_take, if_pos hin] at hrow
          exact hrow
        obtain ⟨a, ea, ha⟩ := h2t.get (i := i) (l := row.map fun (n : Nat) => (n : Int)) (by unfold cz; rw [List.getElem?_map, hrow0]; rfl)
        obtain rfl : V.ref a = y := by
          rw [List.getElem?_take, if_pos hin, ea] at hi
          exact Option.some.inj hi
        refine ⟨rfl, _, rfl, a, _, rfl, .inl (SqL.of (s3 _ _ (sS _ _ ha))), fun L hL => ?_⟩
        have sL := same_new (o := .lst ((row.map fun (n : Nat) => (n : Int)).map V.int)) hL
        have LD : L ≠ D := fun z => by
          rw [z, hDu] at hL
          cases hL
        refine ⟨us, sL _ _ hDu, ?_, same_upd (s3.trans sL) hD, us ++ [.ref L], upd_same, ?_⟩
        · rw [hU.len, List.length_take]
          show _ < 2 ^ 24
          omega
        · rw [List.take_add_one, hrow, Option.toList_some]
          refine ((hU.keep (KeepX.of sL)).app (.cons ⟨L, rfl, LD, ?_⟩ .nil)).keep KeepX.upd
          rw [natsI]
          exact upd_same
      · rintro H3 ⟨s3, us, hDu, hU⟩
        have lut : ut.length = tab.length := by
          have := Paired.length h2t
          unfold cz at this
          rw [List.length_map] at this
          exact this
        have O3 : Oth p H H3 := (O2.trans (Oth.of sS)).trans (Oth.of s3)
        have hh3 := (hh2.same sS).same s3
        rw [List.length_take, lut, ← List.length_take, List.take_length] at hU
        have ltab : (tab.take n).length ≤ n := by
          rw [List.length_take]
          omega
        -- from here on the list stands at D
        let Mid : L2.St → Hp → Prop := fun σ H' => ∃ (x6 x7 : Option V), σ = [some (.ref p), some (.int (n : Int)), some (.int ((j + 2 : Nat) : Int)), none, some (.ref t), some (.ref D), x6, x7] ∧ Oth p H H' ∧ HandAt H' p q ∧ ∃ us bs, H' D = some (.lst us) ∧ LsN D H' us bs ∧ bs.length ≤ n ∧ BOk bs
        refine while_by (fun σ H' => Mid σ H') (fun σ H' => match H' D with | some (.lst us) => n - us.length | _ => 0) ⟨_, _, rfl, O3, hh3, us, tab.take n, hDu, hU, ltab, tok.take n⟩ ?_ ?_
        · rintro σ H' ⟨x6, x7, rfl, O4, h4, us, bs, hDu, hU, hl, hb⟩
          refine ⟨_, rfl, D, us, rfl, .inl (SqL.of hDu), _, rfl, _, _, rfl, rfl, _, rfl, ?_⟩
          refine ite2 (fun hlt => ?_) (fun hge => ?_)
          · have hlt' : (us.length : Int) < (n : Int) := of_decide_eq_true hlt
            refine ⟨_, rfl, .inl ⟨rfl, _, SqL.of hDu⟩, _, rfl, _, rfl, D, us, rfl, .inl (SqL.of hDu), p, q, us.length, rfl, by omega, h4, fun l H5 row O5 h5 hl5 e5 nd hlt5 hl5' => ?_⟩
            have lD : l ≠ D := fun z => by
              rw [z, hDu] at hl5
              cases hl5
            have D5 : H5 D = some (.lst us) := O5 _ _ Dp hDu
            refine ⟨D, us, _, rfl, rfl, D5, by (show us.length < 2 ^ 24); omega, ⟨_, _, rfl, (O4.trans O5).updN HD, h5.upd Dp Dq, us ++ [.ref l], bs ++ [row], upd_same, ?_, ?_, hb.app nd (by rw [← hU.len]; exact hlt5) hl5'⟩, ?_⟩
            · exact ((hU.keep (KeepX.oth O5 h4)).app (.cons ⟨l, rfl, lD, e5⟩ .nil)).keep KeepX.upd
            · rw [List.length_append, ← hU.len]
              show us.length + 1 ≤ n
              omega
            · show (match upd H5 D (.lst (us ++ [.ref l])) D with | some (.lst us) => n - us.length | _ => 0) < (match H' D with | some (.lst us) => n - us.length | _ => 0)
              rw [upd_same, hDu]
              show n - (us ++ [V.ref l]).length < n - us.length
              rw [List.length_append, List.length_singleton]
              omega
          · have hge' : ¬ (us.length : Int) < (n : Int) := fun z => hge (decide_eq_true z)
            have hbn : bs.length = n := by
              have := hU.len
              omega
            refine ⟨_, rfl, _, rfl, p, q, (n : Int), rfl, by omega, by omega, h4, fun r5 H5 r50 r51 h5 e5 => ?_⟩
            obtain ⟨m, rfl⟩ : ∃ m : Nat, r5 = (m : Int) := ⟨r5.toNat, by omega⟩
            refine ⟨_, rfl, p, q, 3, rfl, by decide, by decide, h5, fun r6 H6 r60 r61 h6 e6 => ?_⟩
            have O5 : Oth p H' H5 := Oth.take e5
            have O6 : Oth p H5 H6 := Oth.take e6
            have D6 : H6 D = some (.lst us) := O6 _ _ Dp (O5 _ _ Dp hDu)
            have hU6 : LsN D H6 us bs := (hU.keep (KeepX.oth O5 h4)).keep (KeepX.oth O6 h5)
            have O46 := (O4.trans O5).trans O6
            refine ⟨rfl, _, rfl, ?_⟩
            refine ite2 (fun _ => ?_) (fun _ => ⟨_, rfl, k D H6 us bs O46 h6 HD D6 hU6 hbn hb⟩)
            refine ⟨_, rfl, _, rfl, p, q, m, rfl, by omega, h6, fun l H7 row O7 h7 hl7 e7 nd hlt7 hl7' => ?_⟩
            have lD : l ≠ D := fun z => by
              rw [z, D6] at hl7
              cases hl7
            have D7 : H7 D = some (.lst us) := O7 _ _ Dp D6
            have mus : m < us.length := by
              have := hU.len
              omega
            refine ⟨_, rfl, _, rfl, D, us, _, m, rfl, rfl, D7, ?_, ?_⟩
            · exact ixN_at mus
            · refine ⟨_, rfl, k D _ (us.set m (.ref l)) (bs.set m row) ((O46.trans O7).updN HD) (h7.upd Dp Dq) HD upd_same ?_ (by rw [List.length_set]; exact hbn) (hb.set nd hlt7 hl7')⟩
              exact ((hU6.keep (KeepX.oth O7 h6)).keep KeepX.upd).set lD (upB lD e7) m
        · intro σ H' Q Q' hq hc
          obtain ⟨v, e1, a, us, e2, sq, v2, e3, i, j, e4, e5, b, e6, q⟩ := hc
          exact ⟨v, e1, a, us, e2, sq, v2, e3, i, j, e4, e5, b, e6, hq _ _ q⟩
end
end K16

set_option maxRecDepth 100000
set_option maxHeartbeats 8000000
namespace K16
open PySem PySem.Spec PyProof.Rows L2 Kw
/-- a law's own rows (bases, fields, methods), nothing of them at R -/
def RwN (R : Addr) (H : Hp) : List V → List Ent → Prop := Paired fun v d => ∃ t b m, v = .ref t ∧ t ≠ R ∧ H t = some (.tup [.ref b, natV d.2.1, .ref m]) ∧ b ≠ R ∧ H b = some (.lst (d.1.map natV)) ∧ m ≠ R ∧ H m = some (.lst (d.2.2.map natV))
theorem RwN.keep {R : Addr} {H H' : Hp} (k : KeepX R H H') : ∀ {vs : List V} {ls : List Ent}, RwN R H vs ls → RwN R H' vs ls
  | [], [], _ => .nil
  | _ :: _, _ :: _, .cons ⟨t, b, m, e, n1, h1, n2, h2, n3, h3⟩ r => .cons ⟨t, b, m, e, n1, k _ _ n1 h1 (.inl ⟨_, rfl⟩), n2, k _ _ n2 h2 (ints_o _), n3, k _ _ n3 h3 (ints_o _)⟩ (RwN.keep k r)
theorem RwN.get {R : Addr} {H : Hp} : ∀ {vs : List V} {ls : List Ent} {i : Nat} {d : Ent}, RwN R H vs ls → ls[i]? = some d → ∃ t b m, vs[i]? = some (.ref t) ∧ H t = some (.tup [.ref b, natV d.2.1, .ref m]) ∧ H b = some (.lst (d.1.map natV)) ∧ H m = some (.lst (d.2.2.map natV))
  | [], [], _, _, _, h => by simp at h
  | _ :: _, _ :: _, 0, _, .cons ⟨t, b, m, e1, n1, h1, n2, h2, n3, h3⟩ _, e => by
    obtain rfl := Option.some.inj e
    exact ⟨t, b, m, by rw [e1]; rfl, h1, h2, h3⟩
  | _ :: _, _ :: _, i + 1, _, .cons _ r, e => RwN.get (i := i) r e
theorem RwN.app {R : Addr} {H : Hp} : ∀ {vs us : List V} {ls ms : List Ent}, RwN R H vs ls → RwN R H us ms → RwN R H (vs ++ us) (ls ++ ms)
  | [], _, [], _, _, h => h
  | _ :: _, _, _ :: _, _, .cons h r, s => .cons h (RwN.app r s)
theorem RwN.len {R : Addr} {H : Hp} {vs : List V} {ls : List Ent} (h : RwN R H vs ls) : vs.length = ls.length := Paired.length h
theorem RwN.rows {R : Addr} {H : Hp} : ∀ {vs : List V} {ls : List Ent}, RwN R H vs ls → RowsAt H vs (ls.map (·.1))
  | [], [], _ => .nil
  | _ :: _, _ :: _, .cons ⟨t, b, m, e, n1, h1, n2, h2, n3, h3⟩ r => .cons ⟨t, b, _, _, e, h1, .inl h2⟩ (RwN.rows r)
/-- right rows -/
def EOk (i : Nat) (d : Ent) : Prop := d.1.Nodup ∧ (∀ b ∈ d.1, b < i) ∧ d.1.length ≤ 3 ∧ d.2.1 ≤ 3 ∧ d.2.2.Pairwise (· < ·) ∧ (∀ m ∈ d.2.2, m < 6) ∧ d.2.2.length ≤ 3
def DsOk (ds : List Ent) : Prop := ∀ (i : Nat) (d : Ent), ds[i]? = some d → EOk i d
theorem DsOk.app {ds : List Ent} {d : Ent} (h : DsOk ds) (z : EOk ds.length d) : DsOk (ds ++ [d]) := fun i r e => by
  by_cases q : i < ds.length
  · rw [List.getElem?_append_left q] at e
    exact h i r e
  · rw [List.getElem?_append_right (by omega)] at e
    by_cases q2 : i - ds.length = 0
    · rw [q2] at e
      obtain rfl : d = r := Option.some.inj e
      have : i = ds.length := by omega
      rw [this]
      exact z
    · rw [List.getElem?_eq_none (by rw [List.length_singleton]; omega)] at e
      cases e
theorem DsOk.valid {ds : List Ent} (h : DsOk ds) : validB (ds.map (·.1)) := fun c row e b hb => by
  rw [List.getElem?_map] at e
  obtain ⟨d, hd, rfl⟩ := Option.map_eq_some_iff.mp e
  exact (h c d hd).2.1 b hb
theorem DsOk.short {ds : List Ent} (h : DsOk ds) : ∀ row ∈ ds.map (·.1), row.length ≤ 3 := fun row hr => by
  obtain ⟨d, hd, rfl⟩ := List.mem_map.mp hr
  obtain ⟨i, hi⟩ := List.mem_iff_getElem?.mp hd
  exact (h i d hi).2.2.1
/-- as World takes them -/
theorem RwN.entries {R : Addr} {H : Hp} {vs : List V} {ds : List Ent} (h : RwN R H vs ds) (ok : DsOk ds) : ∀ (i : Nat) (d : Ent), ds[i]? = some d → ∃ e, vs[i]? = some e ∧ EntryOk H e i d := fun i d hd => by
  obtain ⟨t, b, m, e, h1, h2, h3⟩ := h.get hd
  obtain ⟨o1, o2, o3, o4, o5, o6, o7⟩ := ok i d hd
  exact ⟨_, e, t, b, m, rfl, .inr h1, .inl h2, .inl h3, ⟨o1, by omega, o2⟩, o4, up_nodup o5, o7, o6⟩
section
variable {P : Program} {w : World} {K : PySem.W.Frag} {mg : Str → Option Value} {base : Heap} {f fT fM fB fS fMe : Addr} {fd fdT fdM fdB fdS fdMe : FuncData}
def spClasses : Sp := fun vs H Q _ => ∃ (p q : Addr) (lo hi most : Nat) (wanted : Bool), vs = [.ref p, .int (lo : Int), .int (hi : Int), .int (most : Int), .bl wanted] ∧ 1 ≤ lo ∧ lo ≤ hi ∧ hi ≤ 12 ∧ HandAt H p q ∧
  ∀ l H' us (ds : List Ent), Oth p H H' → HandAt H' p q → H l = none → H' l = some (.lst us) → RwN l H' us ds → lo ≤ ds.length → ds.length ≤ hi → DsOk ds → Q (.ref l) H'
theorem sc_classes : FnScope ["_law_hand_here", "_law_low", "_law_high", "_law_most", "_law_wanted", "_law_many", "_law_bases_here", "_law_rest", "_law_rows", "_law_own", "_law_fields"] ["_law_hand_here", "_law_low", "_law_high", "_law_most", "_law_wanted"] (defScope (top 50)) := ⟨rfl, rfl, rfl, by decide +kernel, rfl, by decide +kernel, by decide +kernel⟩
theorem ok_classes (F : FnP K "_law_classes" 50 f fd) (B : Fr mg) (FT : FnP K "_law_take" 46 fT fdT) (mT : mg "_law_take" = some (.ref fT)) (FM : FnP K "_law_mixed" 45 fM fdM) (mM : mg "_law_mixed" = some (.ref fM)) (FB : FnP K "_law_bases" 47 fB fdB) (mB : mg "_law_bases" = some (.ref fB))
    (FS : FnP K "_law_shape" 49 fS fdS) (mS : mg "_law_shape" = some (.ref fS)) (FMe : FnP K "_law_methods" 48 fMe fdMe) (mMe : mg "_law_methods" = some (.ref fMe)) (gMax : mg "max" = none) (gMin : mg "min" = none) :
    FnOk P w K mg base CX0 5 f fd ["_law_hand_here", "_law_low", "_law_high", "_law_most", "_law_wanted"] spClasses := by
  have GT : FnOk P w K mg base CX0 2 fT fdT ["_law_hand_here", "_law_many"] spTake := ok_take FT FM mM B.int B.len
  have bT : L2.Binds K fdT ["_law_hand_here", "_law_many"] [] := FT.bindsN fun _ _ _ _ _ _ us hl => match us, hl with | [_, _], _ => rfl
  have GS : FnOk P w K mg base CX0 4 fS fdS ["_law_hand_here", "_law_many"] spShape := ok_shape FS B FT mT FM mM FB mB
  have bS : L2.Binds K fdS ["_law_hand_here", "_law_many"] [] := FS.bindsN fun _ _ _ _ _ _ us hl => match us, hl with | [_, _], _ => rfl
  have GMe : FnOk P w K mg base CX0 3 fMe fdMe ["_law_hand_here"] spMethods := ok_methods FMe B FT mT FM mM
  have bMe : L2.Binds K fdMe ["_law_hand_here"] [] := FMe.bindsN fun _ _ _ _ _ _ us hl => match us, hl with | [_], _ => rfl
  refine F.ok sc_classes (fun vs H Q E h => ?_) (fun cdv A outer s H vs Q E hr h => ?_)
  · obtain ⟨p, q, lo, hi, most, wanted, rfl, _⟩ := h
    rfl
  · obtain ⟨p, q, lo, hi, most, wanted, rfl, l1, l2, l3, hh, k⟩ := h
    refine ⟨_, PSs.nox (pss_cons (ps_set (i := 5) sc_classes.nd rfl (Or.inl rfl) (pe_op op_add (pv 1) (pe_callB (call_max2 rfl) (by rfl) gMax (by decide +kernel)
        (pa_cons (pe_call GT (hr.mono (by decide)) (by rfl) mT FT.kp bT .nil pass0 (pa_cons (pv 0) (pa_cons (pe_op op_add (pe_op op_sub (pv 2) (pv 1)) pe_int) pa_nil)))
        (pa_cons (pe_call GT (hr.mono (by decide)) (by rfl) mT FT.kp bT .nil pass0 (pa_cons (pv 0) (pa_cons (pe_op op_add (pe_op op_sub (pv 2) (pv 1)) pe_int) pa_nil))) pa_nil)))))
      (pss_cons (ps_set (i := 6) sc_classes.nd rfl (Or.inl rfl) (pe_call GS hr (by rfl) mS FS.kp bS .nil pass0 (pa_cons (pv 0) (pa_cons (pv 5) pa_nil))))
      (pss_cons (ps_set (i := 7) sc_classes.nd rfl (Or.inl rfl) (pv 3))
      (pss_cons (ps_set (i := 8) sc_classes.nd rfl (Or.inl rfl) (pe_lst pa_nil))
      (pss_cons (ps_for PassesOwn.never rfl (pi_list (pv 6)) (pg_name (i := 9) sc_classes.nd rfl (Or.inl rfl))
        (pss_cons (ps_set (i := 10) sc_classes.nd rfl (Or.inl rfl) (pe_callB (call_min2 rfl) (by rfl) gMin (by decide +kernel) (pa_cons (pv 7)
          (pa_cons (pe_ix ix_tup (pe_tup (pa_cons pe_int (pa_cons pe_int (pa_cons pe_int (pa_cons pe_int (pa_cons pe_int (pa_cons pe_int (pa_cons pe_int (pa_cons pe_int (pa_cons pe_int (pa_cons pe_int pa_nil))))))))))) (pe_call GT (hr.mono (by decide)) (by rfl) mT FT.kp bT .nil pass0 (pa_cons (pv 0) (pa_cons pe_int pa_nil))) (fun _ _ => rfl)) pa_nil))))
        (pss_cons (ps_set (i := 7) sc_classes.nd rfl (Or.inl rfl) (pe_op op_sub (pv 7) (pv 10)))
        (pss_one (ps_expr (pe_bm PySem.F.plainAttrs_list PySem.F.slot_list_append PySem.F.type_list_append mt_append (pv 8) (pa_cons (pe_tup (pa_cons (pv 9) (pa_cons (pv 10)
          (pa_cons (pe_ifExp (pt_val (pv 4)) (pe_call GMe (hr.mono (by decide)) (by rfl) mMe FMe.kp bMe .nil pass0 (pa_cons (pv 0) pa_nil)) (pe_lst pa_nil)) pa_nil)))) pa_nil)))))))
      (pss_one (ps_ret (pv 8)))))))), ?_⟩
    have m0 : (1 : Int) ≤ (hi : Int) - (lo : Int) + 1 := by omega
    have m1 : (hi : Int) - (lo : Int) + 1 < 1073741824 := by omega
    refine ⟨_, rfl, _, rfl, _, rfl, _, rfl, _, _, rfl, rfl, _, _, rfl, rfl, p, q, _, rfl, m0, m1, hh, fun r1 H1 r10 r11 h1 e1 => ?_⟩
    refine ⟨_, rfl, _, rfl, _, rfl, _, _, rfl, rfl, _, _, rfl, rfl, p, q, _, rfl, m0, m1, h1, fun r2 H2 r20 r21 h2 e2 => ?_⟩
    have O2 : Oth p H H2 := (Oth.take e1).trans (Oth.take e2)
    refine ⟨_, _, rfl, _, _, rfl, rfl, ?_⟩
    obtain ⟨n, en, n1, n2⟩ : ∃ n : Nat, (lo : Int) + (if r2 > r1 then r2 else r1) = (n : Int) ∧ lo ≤ n ∧ n ≤ hi := by
      refine ⟨((lo : Int) + (if r2 > r1 then r2 else r1)).toNat, ?_, ?_, ?_⟩ <;> split <;> omega
    have en' : V.int ((lo : Int) + (if r2 > r1 then r2 else r1)) = natV n := by rw [en]; rfl
    show gName 5 (V.int ((lo : Int) + (if r2 > r1 then r2 else r1))) _ _ _
    rw [en']
    refine ⟨_, rfl, _, rfl, p, q, n, rfl, by omega, by omega, h2, fun l H3 ul bs O3 h3 hl3 L3 hU3 hbn hb3 => ?_⟩
    have O3' := O2.trans O3
    obtain ⟨lp, lq⟩ := h2.ne hl3
    refine ⟨_, rfl, by decide, fun D hD => ?_⟩
    obtain ⟨Dp, Dq⟩ := h3.ne hD
    have HD : H D = none := oth_free O3' Dp hD
    have sD := same_new (o := .lst []) hD
    have lD : l ≠ D := fun z => by
      rw [z, hD] at L3
      cases L3
    refine ⟨_, rfl, l, rfl, ⟨_, SqL.of (sD _ _ L3)⟩, for_list (K := K) (a := l) (xs := ul) (fun i σ H' => ∃ (rest : Nat) (x9 x10 : Option V), σ = [some (.ref p), some (.int (lo : Int)), some (.int (hi : Int)), some (.int (most : Int)), some (.bl wanted), some (natV n), some (.ref l), some (.int (rest : Int)), some (.ref D), x9, x10] ∧
        Oth p H H' ∧ HandAt H' p q ∧ H' l = some (.lst ul) ∧ LsN D H' ul bs ∧ ∃ us ds, H' D = some (.lst us) ∧ RwN D H' us ds ∧ ds.length = i ∧ DsOk ds)
      ⟨most, none, none, rfl, O3'.updN HD, h3.upd Dp Dq, sD _ _ L3, ?_, [], [], upd_same, .nil, rfl, fun i d e => by simp at e⟩ (fun i σ H' _ ⟨_, _, _, _, _, _, h, _⟩ => SqL.of h) ?_ ?_⟩
    · have key : ∀ {vs : List V} {ls : List (List Nat)}, LsN l H3 vs ls → LsN D (upd H3 D (.lst [])) vs ls := fun h => by
        induction h with
        | nil => exact .nil
        | cons z _ ih =>
          obtain ⟨t, e, n, ht⟩ := z
          exact .cons ⟨t, e, fun z => (by rw [z, hD] at ht; cases ht), sD _ _ ht⟩ ih
      exact key hU3
    · rintro i y σ H4 hi4 ⟨rest, x9, x10, rfl, O4, h4, L4, hB4, us, ds, D4, hR4, hl4, ok4⟩
      have hin : i < n := by
        have := (List.getElem?_eq_some_iff.mp hi4).1
        rw [hU3.len, hbn] at this
        exact this
      obtain ⟨row, hrow⟩ : ∃ row, bs[i]? = some row := ⟨_, List.getElem?_eq_getElem (by omega)⟩
      obtain ⟨b, eb, bD, hb⟩ := hB4.get hrow
      obtain rfl : V.ref b = y := Option.some.inj (eb.symm.trans hi4)
      obtain ⟨bo1, bo2, bo3⟩ := hb3 i row hrow
      refine ⟨_, rfl, by (show 10 ≤ sizeLine); decide, fun t ht => ?_⟩
      obtain ⟨tp, tq⟩ := h4.ne ht
      have st := same_new (o := .tup (([1, 1, 0, 1, 2, 1, 2, 1, 1, 3] : List Int).map V.int)) ht
      refine ⟨_, rfl, p, q, 10, rfl, by decide, by decide, h4.upd tp tq, fun r H5 r0 r1 h5 e5 => ?_⟩
      obtain ⟨v, hv, hm⟩ := tab_at (tab := [1, 1, 0, 1, 2, 1, 2, 1, 1, 3]) r0 r1
      have hv3 : 0 ≤ v ∧ v ≤ 3 := (by decide : ∀ v ∈ ([1, 1, 0, 1, 2, 1, 2, 1, 1, 3] : List Int), 0 ≤ v ∧ v ≤ 3) v hm
      have T5 : H5 t = some (.tup (([1, 1, 0, 1, 2, 1, 2, 1, 1, 3] : List Int).map V.int)) := by
        rw [e5 t tp]
        exact upd_same
      have O5 : Oth p H4 H5 := (Oth.of st).trans (Oth.take e5)
      refine ⟨t, _, r, _, rfl, rfl, SqT.of T5, hv, _, _, rfl, ?_⟩
      obtain ⟨g, eg, g3, gr⟩ : ∃ g : Nat, (if v < (rest : Int) then v else (rest : Int)) = (g : Int) ∧ g ≤ 3 ∧ g ≤ rest := by
        refine ⟨(if v < (rest : Int) then v else (rest : Int)).toNat, ?_, ?_, ?_⟩ <;> split <;> omega
      have eg' : V.int (if v < (rest : Int) then v else (rest : Int)) = natV g := by rw [eg]; rfl
      show gName 10 (V.int (if v < (rest : Int) then v else (rest : Int))) _ _ _
      rw [eg']
      refine ⟨_, rfl, _, rfl, _, _, rfl, rfl, ?_⟩
      have er : V.int ((rest : Int) - (g : Int)) = V.int ((rest - g : Nat) : Int) := by congr 1; omega
      show gName 7 (V.int ((rest : Int) - (g : Int))) _ _ _
      rw [er]
      have D5 : H5 D = some (.lst us) := O5 _ _ Dp D4
      -- the end of a turn, the methods' list at m
      have O45 := O4.trans O5
      have hh5 := h5
      have fin : ∀ (m : Addr) (ms : List Nat) (H6 : Hp), Oth p H5 H6 → HandAt H6 p q → H5 m = none → H6 m = some (.lst (ms.map natV)) → ms.Pairwise (· < ·) → (∀ m ∈ ms, m < 6) → ms.length ≤ 3 → ∀ (u : Addr), H6 u = none →
          ∃ (us1 : List V) (ds1 : List Ent), upd (upd H6 u (.tup [.ref b, natV g, .ref m])) D (.lst (us ++ [.ref u])) D = some (.lst us1) ∧ RwN D (upd (upd H6 u (.tup [.ref b, natV g, .ref m])) D (.lst (us ++ [.ref u]))) us1 ds1 ∧ ds1.length = i + 1 ∧ DsOk ds1 := by
        intro m ms H6 O6 h6 hm5 hm6 p1 p2 p3 u hu
        have su := same_new (o := .tup [.ref b, natV g, .ref m]) hu
        have D6 : H6 D = some (.lst us) := O6 _ _ Dp D5
        have uD : u ≠ D := fun z => by
          rw [z, D6] at hu
          cases hu
        have mD : m ≠ D := fun z => by
          rw [z, D5] at hm5
          cases hm5
        have kb : KeepX D H4 H6 := (KeepX.oth O5 h4).trans (KeepX.oth O6 h5)
        refine ⟨us ++ [.ref u], ds ++ [(row, g, ms)], upd_same, ?_, by rw [List.length_append, hl4]; rfl, ok4.app ⟨bo1, by rw [hl4]; exact bo2, bo3, g3, p1, p2, p3⟩⟩
        refine (((hR4.keep kb).keep (KeepX.of su)).app (.cons ⟨u, b, m, rfl, uD, upd_same, bD, ?_, mD, su _ _ hm6⟩ .nil)).keep KeepX.upd
        exact su _ _ (kb _ _ bD hb (ints_o _))
      have inv : ∀ (m : Addr) (ms : List Nat) (H6 : Hp), Oth p H5 H6 → HandAt H6 p q → H5 m = none → H6 m = some (.lst (ms.map natV)) → ms.Pairwise (· < ·) → (∀ m ∈ ms, m < 6) → ms.length ≤ 3 → ∀ (u : Addr), H6 u = none →
          H6 D = some (.lst us) ∧ Oth p H (upd (upd H6 u (.tup [.ref b, natV g, .ref m])) D (.lst (us ++ [.ref u]))) ∧ HandAt (upd (upd H6 u (.tup [.ref b, natV g, .ref m])) D (.lst (us ++ [.ref u]))) p q ∧
          upd (upd H6 u (.tup [.ref b, natV g, .ref m])) D (.lst (us ++ [.ref u])) l = some (.lst ul) ∧ LsN D (upd (upd H6 u (.tup [.ref b, natV g, .ref m])) D (.lst (us ++ [.ref u]))) ul bs := by
        intro m ms H6 O6 h6 hm5 hm6 p1 p2 p3 u hu
        have su := same_new (o := .tup [.ref b, natV g, .ref m]) hu
        have D6 : H6 D = some (.lst us) := O6 _ _ Dp D5
        refine ⟨D6, Oth.updN ((O45.trans O6).trans (Oth.of su)) HD, (h6.same su).upd Dp Dq, upB lD (su _ _ (O6 _ _ lp (O5 _ _ lp L4))), ?_⟩
        exact (((hB4.keep (KeepX.oth O5 h4)).keep (KeepX.oth O6 h5)).keep (KeepX.of su)).keep KeepX.upd
      have dl : us.length < 2 ^ 24 := by
        have := hR4.len
        omega
      refine ⟨_, rfl, .inl ⟨rfl, _, SqL.of D5⟩, _, rfl, _, rfl, _, rfl, wanted, rfl, ?_⟩
      cases wanted with
      | true =>
        refine iteT ⟨_, rfl, p, q, rfl, h5, fun m H6 ms O6 h6 hm5 hm6 p1 p2 p3 => ⟨by (show 3 ≤ sizeLine); decide, fun u hu => ?_⟩⟩
        obtain ⟨us1, ds1, f1, f2, f3, f4⟩ := fin m ms H6 O6 h6 hm5 hm6 p1 p2 p3 u hu
        obtain ⟨v1, v2, v3, v4, v5⟩ := inv m ms H6 O6 h6 hm5 hm6 p1 p2 p3 u hu
        exact ⟨D, us, _, rfl, rfl, same_new hu _ _ v1, dl, rest - g, _, _, rfl, v2, v3, v4, v5, us1, ds1, f1, f2, f3, f4⟩
      | false =>
        refine iteF ⟨by decide, fun m hm => ⟨by (show 3 ≤ sizeLine); decide, fun u hu => ?_⟩⟩
        have sm := same_new (o := .lst []) hm
        obtain ⟨mp, mq⟩ := h5.ne hm
        obtain ⟨us1, ds1, f1, f2, f3, f4⟩ := fin m [] _ (Oth.of sm) (h5.same sm) hm upd_same .nil (fun _ z => by cases z) (by decide) u hu
        obtain ⟨v1, v2, v3, v4, v5⟩ := inv m [] _ (Oth.of sm) (h5.same sm) hm upd_same .nil (fun _ z => by cases z) (by decide) u hu
        exact ⟨D, us, _, rfl, rfl, same_new hu _ _ v1, dl, rest - g, _, _, rfl, v2, v3, v4, v5, us1, ds1, f1, f2, f3, f4⟩
    · rintro σ H4 ⟨rest, x9, x10, rfl, O4, h4, L4, hB4, us, ds, D4, hR4, hl4, ok4⟩
      have : ul.length = n := by rw [hU3.len, hbn]
      exact ⟨_, rfl, k D H4 us ds O4 h4 HD D4 hR4 (by omega) (by omega) ok4⟩
end
end K16

set_option maxRecDepth 100000
set_option maxHeartbeats 8000000
namespace K16
open PySem PySem.Spec PyProof.Rows L2 Kw
/-! ### a law's own kin, hues and clashes -/
def kinOf (els : List (List Nat)) (c : Nat) : List Nat := els.getD c [] ++ [c]
def kins (els : List (List Nat)) : List (List Nat) := (List.range els.length).map (kinOf els)
theorem kins_len (els : List (List Nat)) : (kins els).length = els.length := by
  unfold kins
  rw [List.length_map, List.length_range]
theorem kins_at {els : List (List Nat)} {c : Nat} (h : c < els.length) : (kins els)[c]? = some (kinOf els c) := by
  unfold kins
  rw [List.getElem?_map, List.getElem?_range h]
  rfl
theorem kins_getD {els : List (List Nat)} {c : Nat} (h : c < els.length) : (kins els).getD c [] = kinOf els c := by
  rw [List.getD_eq_getElem?_getD, kins_at h]
  rfl
def hV : Option Nat → V
  | none => .non
  | some n => natV n
def hueOf (hs : List (Option Nat)) (x : Nat) : Option Nat := hs.getD x none
theorem hue_at {hs : List (Option Nat)} {x : Nat} (h : x < hs.length) : (hs.map hV)[x]? = some (hV (hueOf hs x)) := by
  unfold hueOf
  rw [List.getElem?_map, List.getElem?_eq_getElem h, List.getD_eq_getElem?_getD, List.getElem?_eq_getElem h]
  rfl
theorem hV_inj {a b : Option Nat} (h : hV a = hV b) : a = b := by
  cases a <;> cases b
  · rfl
  · cases h
  · cases h
  · exact congrArg some (by have := V.int.inj h; omega)
theorem hV_eq (a b : Option Nat) : decide (hV a = hV b) = (a == b) := by
  rw [Bool.eq_iff_iff, decide_eq_true_iff, beq_iff_eq]
  exact ⟨hV_inj, fun h => by rw [h]⟩
theorem hV_scal (a b : Option Nat) : scal (hV a) (hV b) = true := by cases a <;> cases b <;> rfl
theorem hV_non (a : Option Nat) : decide (hV a = V.non) = a.isNone := by cases a <;> rfl
def OptTup (H : Hp) (v : V) (o : Option (List Nat)) : Prop := (o = none ∧ v = .non) ∨ ∃ l t, o = some l ∧ v = .ref t ∧ H t = some (.tup (l.map natV))
theorem OptTup.same {H H' : Hp} {v : V} {o : Option (List Nat)} (h : OptTup H v o) (s : Same H H') : OptTup H' v o := by
  rcases h with h | ⟨l, t, e1, e2, h⟩
  · exact .inl h
  · exact .inr ⟨l, t, e1, e2, s _ _ h⟩
def Least (c : Nat → Nat → Bool) (xs : List Nat) (o : Option (List Nat)) : Prop :=
  (o = none ∧ ∀ a ∈ xs, ∀ b ∈ xs, c a b = false) ∨ ∃ a b, o = some [a, b] ∧ a ∈ xs ∧ b ∈ xs ∧ c a b = true ∧ ∀ a' ∈ xs, ∀ b' ∈ xs, c a' b' = true → a < a' ∨ (a = a' ∧ b ≤ b')
theorem Least.one {c : Nat → Nat → Bool} {xs : List Nat} {o o' : Option (List Nat)} (h : Least c xs o) (h' : Least c xs o') : o = o' := by
  rcases h with ⟨rfl, h⟩ | ⟨a, b, rfl, ha, hb, hc, hm⟩
  · rcases h' with ⟨rfl, _⟩ | ⟨a, b, rfl, ha, hb, hc, hm⟩
    · rfl
    · rw [h a ha b hb] at hc
      cases hc
  · rcases h' with ⟨rfl, h'⟩ | ⟨a', b', rfl, ha', hb', hc', hm'⟩
    · rw [h' a ha b hb] at hc
      cases hc
    · have z1 := hm a' ha' b' hb' hc'
      have z2 := hm' a ha b hb hc
      have : a = a' ∧ b = b' := by omega
      rw [this.1, this.2]
def condL (ks : List (List Nat)) (hs : List (Option Nat)) (a b : Nat) : Bool := decide (a < b) && ((hueOf hs a).isSome && ((hueOf hs a == hueOf hs b) && !((ks.getD b []).contains a)))
section
variable {P : Program} {w : World} {K : PySem.W.Frag} {mg : Str → Option Value} {base : Heap} {f fE fP : Addr} {fd fdE fdP : FuncData}
def spKin : Sp := fun vs H Q _ => ∃ (a : Addr) (ws : List V) (bs : List (List Nat)), vs = [.ref a] ∧ H a = some (.lst ws) ∧ RowsAt H ws bs ∧ validB bs ∧ bs.length ≤ 12 ∧ (∀ row ∈ bs, row.length ≤ 4) ∧
  ∀ H' l us, Same H H' → H l = none → H' l = some (.lst us) → (∀ v ∈ us, v ≠ .ref l) → ListsAt H' us (kins (elders bs)) → Q (.ref l) H'
theorem elders_row_up (bs : List (List Nat)) (c : Nat) (l : List Nat) (h : (elders bs)[c]? = some l) : l.Pairwise (· < ·) := by
  have key : ∀ (bs : List (List Nat)) (acc : List (List Nat)), (∀ l ∈ acc, l.Pairwise (· < ·)) → ∀ l ∈ bs.foldl (fun rows row => rows ++ [elStep rows row]) acc, l.Pairwise (· < ·) := by
    intro bs
    induction bs with
    | nil => intro acc h; exact h
    | cons b r ih =>
      intro acc h l hl
      rw [List.foldl_cons] at hl
      refine ih _ (fun l hl => ?_) l hl
      rcases List.mem_append.mp hl with hl | hl
      · exact h l hl
      · rw [List.mem_singleton.mp hl]
        exact elStep_up _ _
  exact key bs [] (fun l hl => by cases hl) l (List.mem_of_getElem? h)
theorem kin_up (bs : List (List Nat)) (c : Nat) (h : c < bs.length) : (kinOf (elders bs) c).Pairwise (· < ·) ∧ ∀ x ∈ kinOf (elders bs) c, x ≤ c := by
  obtain ⟨l, hl⟩ : ∃ l, (elders bs)[c]? = some l := ⟨_, List.getElem?_eq_getElem (by rw [elders_len]; exact h)⟩
  have e : (elders bs).getD c [] = l := by
    rw [List.getD_eq_getElem?_getD, hl]
    rfl
  unfold kinOf
  rw [e]
  have lt := elders_lt bs c l hl
  refine ⟨List.pairwise_append.mpr ⟨elders_row_up bs c l hl, List.pairwise_singleton _ _, fun a ha b hb => ?_⟩, fun x hx => ?_⟩
  · rw [List.mem_singleton.mp hb]
    exact lt a ha
  · rcases List.mem_append.mp hx with hx | hx
    · exact Nat.le_of_lt (lt x hx)
    · rw [List.mem_singleton.mp hx]
      exact Nat.le_refl _
theorem sc_kin : FnScope ["_law_rows", "_law_elders_here", "_law_c"] ["_law_rows"] (defScope (top 54)) := ⟨rfl, rfl, rfl, by decide +kernel, rfl, by decide +kernel, by decide +kernel⟩
theorem ok_kin (F : FnP K "_law_kin" 54 f fd) (B : Fr mg) (FE : FnP K "_law_elders" 51 fE fdE) (mE : mg "_law_elders" = some (.ref fE)) : FnOk P w K mg base CX0 2 f fd ["_law_rows"] spKin := by
  have GE : FnOk P w K mg base CX0 1 fE fdE ["_law_rows"] spLElders := ok_lelders FE B
  have bE : L2.Binds K fdE ["_law_rows"] [] := FE.bindsN fun _ _ _ _ _ _ us hl => match us, hl with | [_], _ => rfl
  refine F.ok sc_kin (fun vs H Q E h => ?_) (fun cdv A outer s H vs Q E hr h => ?_)
  · obtain ⟨a, ws, bs, rfl, _⟩ := h
    rfl
  · obtain ⟨a, ws, bs, rfl, hA, hT, hv, h12, h4, k⟩ := h
    refine ⟨_, PSs.nox (pss_cons (ps_set (i := 1) sc_kin.nd rfl (Or.inr rfl) (pe_call GE hr (by rfl) mE FE.kp bE .nil pass0 (pa_cons (pv 0) pa_nil)))
      (pss_one (ps_ret (pe_lc (own := [("_law_c", 2)]) (g := gName 2) (tt := tYes) rfl sc_kin.nd (pi_range1 (by rfl) B.range (pa_cons (pe_callB call_len_seq (by rfl) B.len PySem.boot_len (pa_cons (pv 0) pa_nil)) pa_nil)) (blkOk_by (N := ["_law_rows", "_law_elders_here", "_law_c"]) (sc := defScope (top 54)) (by decide +kernel))
          (fun _ _ _ _ _ => pg_name (i := 2) sc_kin.nd rfl (Or.inl rfl)) (fun _ _ _ _ _ => pts_nil)
          (fun _ _ _ _ _ => pe_callB (r := rSortSI K) (call_sortedSI (X := _)) (by rfl) B.sorted (by decide +kernel) (pa_cons (pe_op op_cat (pe_ix (r := rIxL K) ix_list (pv 1) (pv 2) (fun _ _ => rfl)) (pe_lst (pa_cons (pv 2) pa_nil))) pa_nil)))))), ?_⟩
    have hbl : ws.length = bs.length := Paired.length hT
    refine ⟨_, rfl, a, ws, bs, rfl, hA, hT, hv, by omega, fun row hr => ?_, fun H1 l ue s1 hl hl1 hne hE => ?_⟩
    · have h1 := h4 row hr
      have h2 : row.length * bs.length ≤ 4 * 12 := Nat.mul_le_mul h1 h12
      omega
    · refine ⟨_, rfl, a, ws, rfl, .inl (SqL.of (s1 _ _ hA)), _, rfl, by omega, by omega, fun D hD => lc_range (n := ws.length) (fun i H2 => Same H1 H2 ∧ ∃ us, H2 D = some (.lst us) ∧ (∀ v ∈ us, v ≠ .ref D) ∧ ListsAt H2 us ((kins (elders bs)).take i))
        ⟨same_new hD, [], upd_same, (fun v hv => by cases hv), .nil⟩ ?_ ?_⟩
      · rintro i H2 hi ⟨s2, us, hDu, hne2, hU⟩
        have hie : i < (elders bs).length := by
          rw [elders_len]
          omega
        obtain ⟨le, hle⟩ : ∃ le, (elders bs)[i]? = some le := ⟨_, List.getElem?_eq_getElem hie⟩
        obtain ⟨t, et, ht⟩ := hE.get hle
        have hle12 : le.length ≤ 12 := by
          have := elders_len_row _ _ _ hle
          omega
        refine ⟨rfl, _, rfl, _, rfl, l, ue, (0 : Int) + (i : Int), _, rfl, rfl, SqL.of (s2 _ _ hl1), by rw [Int.zero_add]; exact atI_nat et, ?_⟩
        refine ⟨_, rfl, (by show 1 ≤ 2 ^ 24; decide), fun L hL => ?_⟩
        have sL := same_new (o := .lst [V.int ((0 : Int) + (i : Int))]) hL
        refine ⟨t, L, _, _, rfl, rfl, sL _ _ (s2 _ _ ht), upd_same, ?_, fun N1 hN1 => ?_⟩
        · rw [List.length_map]
          show le.length + 1 ≤ 2 ^ 24
          omega
        · have s1' := same_new (o := .lst (le.map natV ++ [V.int ((0 : Int) + (i : Int))])) hN1
          have ek : le.map natV ++ [V.int ((0 : Int) + (i : Int))] = ((kinOf (elders bs) i).map fun (n : Nat) => (n : Int)).map V.int := by
            unfold kinOf
            rw [List.getD_eq_getElem?_getD, hle, ← natsI, List.map_append, Int.zero_add]
            rfl
          obtain ⟨up, _⟩ := kin_up bs i (by omega)
          refine ⟨N1, (kinOf (elders bs) i).map fun (n : Nat) => (n : Int), rfl, .inl (SqL.of (by rw [← ek]; exact upd_same)), fun ys p perm srt hp => ?_⟩
          have sp := same_new (o := .lst (ys.map V.int)) hp
          have sA := ((Same.trans sL s1').trans sp)
          have ey : ys.map V.int = (kinOf (elders bs) i).map natV := sorted_one perm srt (up_nodup up) (up_nodup up) (fun x => Iff.rfl) up
          have pD : p ≠ D := fun z => by
            have y := (Same.trans sL s1') _ _ hDu
            rw [← z, hp] at y
            cases y
          refine ⟨us, sA _ _ hDu, ?_, same_upd (s2.trans sA) hD, us ++ [.ref p], upd_same, fun v hv => ?_, ?_⟩
          · rw [hU.len, List.length_take]
            show _ < 2 ^ 24
            omega
          · rcases List.mem_append.mp hv with hv | hv
            · exact hne2 v hv
            · rw [List.mem_singleton.mp hv]
              exact fun z => pD (V.ref.inj z)
          · rw [List.take_add_one, kins_at hie, Option.toList_some]
            refine (ListsAt.mono (R := D) (fun b o hb e => upB hb (sA _ _ e)) hne2 hU).app (.cons ⟨p, rfl, ?_⟩ .nil)
            rw [← ey]
            exact upB pD upd_same
      · rintro H2 ⟨s2, us, hDu, hne2, hU⟩
        rw [hbl, ← elders_len bs, ← kins_len, List.take_length] at hU
        refine k H2 D us (s1.trans s2) ?_ hDu hne2 hU
        cases e : H D with
        | none => rfl
        | some o =>
          rw [s1 _ _ e] at hD
          cases hD
def spPairAm : Sp := fun vs H Q _ => ∃ (ak ah am : Addr) (us : List V) (ks : List (List Nat)) (hs : List (Option Nat)) (xs : List Nat), vs = [.ref ak, .ref ah, .ref am] ∧ H ak = some (.lst us) ∧ ListsAt H us ks ∧ H ah = some (.lst (hs.map hV)) ∧ H am = some (.lst (xs.map natV)) ∧
  xs.Pairwise (· < ·) ∧ (∀ x ∈ xs, x < ks.length ∧ x < hs.length) ∧ ∀ v H' o, Same H H' → OptTup H' v o → Least (condL ks hs) xs o → Q v H'
theorem sc_pairAm : FnScope ["_law_kin_here", "_law_hues", "_law_among", "_law_first", "_law_second"] ["_law_kin_here", "_law_hues", "_law_among"] (defScope (top 56)) := ⟨rfl, rfl, rfl, by decide +kernel, rfl, by decide +kernel, by decide +kernel⟩
theorem ok_pairAm (F : FnP K "_law_pair_among" 56 f fd) (B : Fr mg) : FnOk P w K mg base CX0 1 f fd ["_law_kin_here", "_law_hues", "_law_among"] spPairAm := by
  refine F.ok sc_pairAm (fun vs H Q E h => ?_) (fun cdv A outer s H vs Q E hr h => ?_)
  · obtain ⟨ak, ah, am, us, ks, hs, xs, rfl, _⟩ := h
    rfl
  · obtain ⟨ak, ah, am, us, ks, hs, xs, rfl, hk, hU, hh, hm, up, hx, k⟩ := h
    refine ⟨_, PSs.nox (pss_cons (ps_for PassesOwn.never rfl (pi_list (pv 2)) (pg_name (i := 3) sc_pairAm.nd rfl (Or.inl rfl))
        (pss_one (ps_for PassesOwn.never rfl (pi_list (pv 2)) (pg_name (i := 4) sc_pairAm.nd rfl (Or.inl rfl))
          (pss_one (ps_if (PW.pt (pw_and (pt_cmpR op_lt (pv 3) (pv 4) (nomark _)) (pw_and (pt_cmpR op_notN (pe_ix ix_list (pv 1) (pv 3) (fun _ _ => rfl)) pe_non (nomark _))
            (pw_and (pt_cmpR op_eq (pe_ix ix_list (pv 1) (pv 3) (fun _ _ => rfl)) (pe_ix ix_list (pv 1) (pv 4) (fun _ _ => rfl)) (nomark _)) (pw_and1 (pt_cmpR (r := rIn K true) op_notIn_seq (pv 3) (pe_ix ix_list (pv 0) (pv 4) (fun _ _ => rfl)) (by rfl)))))))
            (pss_one (ps_ret (pe_tup (pa_cons (pv 3) (pa_cons (pv 4) pa_nil))))) pss_nil)))))
      (pss_one (ps_ret pe_non))), ?_⟩
    refine ⟨_, rfl, am, rfl, ⟨_, SqL.of hm⟩, for_list (K := K) (a := am) (xs := xs.map natV) (fun i σ H' => Same H H' ∧ (∃ x3 x4, σ = [some (.ref ak), some (.ref ah), some (.ref am), x3, x4]) ∧ ∀ i' a, i' < i → xs[i']? = some a → ∀ b ∈ xs, condL ks hs a b = false)
      ⟨Same.refl H, ⟨_, _, rfl⟩, fun i' a z => absurd z (Nat.not_lt_zero _)⟩ (fun i σ H' _ h => SqL.of (h.1 _ _ hm)) ?_ ?_⟩
    · rintro i y σ H' hi ⟨sH, ⟨x3, x4, rfl⟩, hno⟩
      rw [List.getElem?_map] at hi
      obtain ⟨a, ha, rfl⟩ := Option.map_eq_some_iff.mp hi
      obtain ⟨ak1, ah1⟩ := hx a (List.mem_of_getElem? ha)
      refine ⟨_, rfl, am, rfl, ⟨_, SqL.of (sH _ _ hm)⟩, for_list (K := K) (a := am) (xs := xs.map natV) (fun j σ H' => Same H H' ∧ (∃ x4, σ = [some (.ref ak), some (.ref ah), some (.ref am), some (natV a), x4]) ∧ ∀ j' b, j' < j → xs[j']? = some b → condL ks hs a b = false)
        ⟨sH, ⟨_, rfl⟩, fun i' a z => absurd z (Nat.not_lt_zero _)⟩ (fun i σ H' _ h => SqL.of (h.1 _ _ hm)) ?_ ?_⟩
      · rintro j y σ H2 hj ⟨s2, ⟨x4, rfl⟩, hno2⟩
        rw [List.getElem?_map] at hj
        obtain ⟨b, hb, rfl⟩ := Option.map_eq_some_iff.mp hj
        obtain ⟨bk1, bh1⟩ := hx b (List.mem_of_getElem? hb)
        have next : condL ks hs a b = false → Same H H2 ∧ (∃ x4, ([some (.ref ak), some (.ref ah), some (.ref am), some (natV a), some (natV b)] : L2.St) = [some (.ref ak), some (.ref ah), some (.ref am), some (natV a), x4]) ∧ ∀ j' b, j' < j + 1 → xs[j']? = some b → condL ks hs a b = false := fun e => by
          refine ⟨s2, ⟨_, rfl⟩, fun j' b' hj' hb' => ?_⟩
          by_cases z : j' = j
          · rw [z, hb] at hb'
            rw [← Option.some.inj hb']
            exact e
          · exact hno2 j' b' (by omega) hb'
        obtain ⟨kb, hkb⟩ : ∃ kb, ks[b]? = some kb := ⟨_, List.getElem?_eq_getElem bk1⟩
        have hgd : ks.getD b [] = kb := by
          rw [List.getD_eq_getElem?_getD, hkb]
          rfl
        obtain ⟨t, et, ht⟩ := hU.get hkb
        have hh2 := s2 _ _ hh
        refine ⟨_, rfl, _, rfl, _, _, rfl, rfl, _, rfl, ?_⟩
        refine ite2 (fun c1 => ?_) (fun c1 => next ?_)
        · have c1' : (a : Int) < (b : Int) := of_decide_eq_true c1
          have ab : a < b := by omega
          refine ⟨_, rfl, _, rfl, ah, _, _, _, rfl, rfl, SqL.of hh2, atI_nat (hue_at ah1), rfl, _, rfl, ?_⟩
          rw [hV_non]
          cases c2 : (hueOf hs a).isNone with
          | true =>
            refine iteF (next ?_)
            unfold condL
            rw [← Option.not_isNone, c2]
            simp
          | false =>
            refine iteT ⟨_, rfl, _, rfl, ah, _, _, _, rfl, rfl, SqL.of hh2, atI_nat (hue_at ah1), _, rfl, _, rfl, ah, _, _, _, rfl, rfl, SqL.of hh2, atI_nat (hue_at bh1), hV_scal _ _, _, rfl, ?_⟩
            rw [hV_eq]
            cases c3 : (hueOf hs a == hueOf hs b) with
            | false =>
              refine iteF (next ?_)
              unfold condL
              rw [c3]
              simp
            | true =>
              refine iteT ⟨_, rfl, _, rfl, _, rfl, ak, us, _, _, rfl, rfl, SqL.of (s2 _ _ hk), atI_nat et, t, _, rfl, .inl (SqL.of (s2 _ _ ht)), rfl, flat_nats kb, _, rfl, ?_⟩
              have ein : inV (natV a) (kb.map natV) = kb.contains a := inV_nat a kb
              show (if (!inV (natV a) (kb.map natV)) = true then _ else _)
              rw [ein]
              cases c4 : kb.contains a with
              | true =>
                refine iteF (next ?_)
                unfold condL
                rw [hgd, c4]
                simp
              | false =>
                refine iteT ⟨_, rfl, _, rfl, (by show 2 ≤ sizeLine; decide), fun p hp => ?_⟩
                refine k _ _ (some [a, b]) (s2.trans (same_new hp)) (.inr ⟨_, p, rfl, rfl, upd_same⟩) (.inr ⟨a, b, rfl, List.mem_of_getElem? ha, List.mem_of_getElem? hb, ?_, fun a' ha' b' hb' hc => ?_⟩)
                · unfold condL
                  rw [hgd, c4, c3, ← Option.not_isNone, c2, decide_eq_true ab]
                  rfl
                · obtain ⟨i', hi'⟩ := List.mem_iff_getElem?.mp ha'
                  obtain ⟨j', hj'⟩ := List.mem_iff_getElem?.mp hb'
                  have order : ∀ {m n x y : Nat}, xs[m]? = some x → xs[n]? = some y → m < n → x < y := fun hm hn l => by
                    obtain ⟨m1, e1⟩ := List.getElem?_eq_some_iff.mp hm
                    obtain ⟨n1, e2⟩ := List.getElem?_eq_some_iff.mp hn
                    rw [← e1, ← e2]
                    exact List.pairwise_iff_getElem.mp up _ _ m1 n1 l
                  by_cases q1 : i' < i
                  · rw [hno i' a' q1 hi' b' hb'] at hc
                    cases hc
                  · by_cases q2 : i' = i
                    · rw [q2, ha] at hi'
                      obtain rfl := Option.some.inj hi'
                      by_cases q3 : j' < j
                      · rw [hno2 j' b' q3 hj'] at hc
                        cases hc
                      · by_cases q4 : j' = j
                        · rw [q4, hb] at hj'
                          obtain rfl := Option.some.inj hj'
                          exact .inr ⟨rfl, Nat.le_refl _⟩
                        · exact .inr ⟨rfl, Nat.le_of_lt (order hb hj' (by omega))⟩
                    · exact .inl (order ha hi' (by omega))
        · unfold condL
          have : ¬ a < b := fun z => c1 (decide_eq_true (by show (a : Int) < (b : Int); omega))
          rw [decide_eq_false this]
          rfl
      · rintro σ H2 ⟨s2, ⟨x4, rfl⟩, hno2⟩
        refine ⟨s2, ⟨_, _, rfl⟩, fun i' a' hi' ha' b hb => ?_⟩
        by_cases z : i' = i
        · rw [z, ha] at ha'
          obtain rfl := Option.some.inj ha'
          obtain ⟨j, hj⟩ := List.mem_iff_getElem?.mp hb
          have hjl := (List.getElem?_eq_some_iff.mp hj).1
          exact hno2 j b (by rw [List.length_map]; exact hjl) hj
        · exact hno i' a' (by omega) ha' b hb
    · rintro σ H' ⟨sH, ⟨x3, x4, rfl⟩, hno⟩
      refine k .non H' none sH (.inl ⟨rfl, rfl⟩) (.inl ⟨rfl, fun a ha b hb => ?_⟩)
      obtain ⟨i, hi⟩ := List.mem_iff_getElem?.mp ha
      have hil := (List.getElem?_eq_some_iff.mp hi).1
      exact hno i a (by rw [List.length_map]; exact hil) hi b hb
end
end K16

set_option maxRecDepth 100000
set_option maxHeartbeats 8000000
namespace K16
open PySem PySem.Spec PyProof.Rows L2 Kw
/-! ### hues and depths: the mathematics -/
theorem elders_pre (bs : List (List Nat)) (i : Nat) : ∀ j, i ≤ j → (elders (bs.take j)).take i = elders (bs.take i) := by
  intro j
  induction j with
  | zero =>
    intro h
    obtain rfl : i = 0 := by omega
    rw [List.take_of_length_le (by rw [elders_len, List.length_take]; omega)]
  | succ j ih =>
    intro h
    by_cases e : i = j + 1
    · rw [← e, List.take_of_length_le (by rw [elders_len, List.length_take]; omega)]
    · by_cases q : j < bs.length
      · obtain ⟨row, hrow⟩ : ∃ row, bs[j]? = some row := ⟨_, List.getElem?_eq_getElem q⟩
        rw [elders_more hrow, List.take_append_of_le_length (by rw [elders_len, List.length_take]; omega)]
        exact ih (by omega)
      · rw [show bs.take (j + 1) = bs.take j by rw [List.take_of_length_le (by omega), List.take_of_length_le (by omega)]]
        exact ih (by omega)
theorem elders_pre_all (bs : List (List Nat)) (i : Nat) : (elders bs).take i = elders (bs.take i) := by
  by_cases h : i ≤ bs.length
  · have z := elders_pre bs i bs.length h
    rw [List.take_of_length_le (Nat.le_refl _)] at z
    exact z
  · rw [List.take_of_length_le (by rw [elders_len]; omega), List.take_of_length_le (by omega)]
theorem elders_row {bs : List (List Nat)} {c : Nat} {row : List Nat} (h : bs[c]? = some row) : (elders bs).getD c [] = elStep (elders (bs.take c)) row := by
  have hc := (List.getElem?_eq_some_iff.mp h).1
  have z : ((elders bs).take (c + 1))[c]? = (elders bs)[c]? := by
    rw [List.getElem?_take, if_pos (by omega)]
  rw [elders_pre_all, elders_more h, List.getElem?_append_right (by rw [elders_len, List.length_take]; omega), elders_len, List.length_take, show c - min c bs.length = 0 by omega] at z
  rw [List.getD_eq_getElem?_getD, ← z]
  rfl
theorem elders_getD_take {bs : List (List Nat)} {b c : Nat} (h : b < c) : (elders (bs.take c)).getD b [] = (elders bs).getD b [] := by
  rw [← elders_pre_all, List.getD_eq_getElem?_getD, List.getElem?_take, if_pos h, ← List.getD_eq_getElem?_getD]
theorem elders_mem {bs : List (List Nat)} (hv : validB bs) {c : Nat} {row : List Nat} (h : bs[c]? = some row) (x : Nat) : x ∈ (elders bs).getD c [] ↔ ∃ b ∈ row, x = b ∨ x ∈ (elders bs).getD b [] := by
  have hc := (List.getElem?_eq_some_iff.mp h).1
  rw [elders_row h, elStep_mem (fun b hb => by rw [elders_len, List.length_take]; have := hv c row h b hb; omega) (elders_lt _)]
  constructor
  · rintro ⟨b, hb, e⟩
    exact ⟨b, hb, e.imp id fun e => by rw [elders_getD_take (hv c row h b hb)] at e; exact e⟩
  · rintro ⟨b, hb, e⟩
    exact ⟨b, hb, e.imp id fun e => by rw [elders_getD_take (hv c row h b hb)]; exact e⟩
theorem elders_below {bs : List (List Nat)} {c x : Nat} (h : x ∈ (elders bs).getD c []) : x < c := by
  rw [List.getD_eq_getElem?_getD] at h
  cases e : (elders bs)[c]? with
  | none =>
    rw [e] at h
    cases h
  | some l =>
    rw [e] at h
    exact elders_lt bs c l e x h
theorem elders_trans {bs : List (List Nat)} (hv : validB bs) : ∀ (c : Nat) {x y : Nat}, y ∈ (elders bs).getD c [] → x ∈ (elders bs).getD y [] → x ∈ (elders bs).getD c [] := by
  intro c
  induction c using Nat.strongRecOn with
  | _ c ih =>
    intro x y hy hx
    have hc : c < bs.length := by
      apply Classical.byContradiction
      intro q
      rw [List.getD_eq_getElem?_getD, List.getElem?_eq_none (by rw [elders_len]; omega)] at hy
      cases hy
    obtain ⟨row, hrow⟩ : ∃ row, bs[c]? = some row := ⟨_, List.getElem?_eq_getElem hc⟩
    obtain ⟨b, hb, e⟩ := (elders_mem hv hrow y).mp hy
    refine (elders_mem hv hrow x).mpr ⟨b, hb, .inr ?_⟩
    rcases e with e | e
    · rw [← e]
      exact hx
    · exact ih b (hv c row hrow b hb) e hx
theorem nodup_sub_len' {ks ns : List Nat} (hn : ks.Nodup) (hs : ∀ k ∈ ks, k ∈ ns) : ks.length ≤ ns.length := by
  induction ks generalizing ns with
  | nil => exact Nat.zero_le _
  | cons k r ih =>
    have hk : k ∈ ns := hs k List.mem_cons_self
    obtain ⟨h1, h2⟩ := List.nodup_cons.mp hn
    have z := ih (ns := ns.erase k) h2 fun y hy => by
      have ne : y ≠ k := fun e => h1 (by rw [← e]; exact hy)
      exact (List.mem_erase_of_ne ne).mpr (hs y (List.mem_cons_of_mem _ hy))
    rw [List.length_erase_of_mem hk] at z
    have := List.length_pos_of_mem hk
    show r.length + 1 ≤ ns.length
    omega
/-- each row holds its own class last, the others below it, and the rows of all of them -/
structure KinsOk (ks : List (List Nat)) : Prop where
  up : ∀ c, c < ks.length → (ks.getD c []).Pairwise (· < ·)
  self : ∀ c, c < ks.length → c ∈ ks.getD c []
  le : ∀ c, c < ks.length → ∀ x ∈ ks.getD c [], x ≤ c
  tr : ∀ c, c < ks.length → ∀ y ∈ ks.getD c [], ∀ x ∈ ks.getD y [], x ∈ ks.getD c []
theorem kins_ok {bs : List (List Nat)} (hv : validB bs) : KinsOk (kins (elders bs)) := by
  have hl : ∀ {c}, c < (kins (elders bs)).length → c < bs.length := fun h => by
    rw [kins_len, elders_len] at h
    exact h
  have g : ∀ {c}, c < bs.length → (kins (elders bs)).getD c [] = (elders bs).getD c [] ++ [c] := fun h => kins_getD (by rw [elders_len]; exact h)
  refine ⟨fun c h => ?_, fun c h => ?_, fun c h x hx => ?_, fun c h y hy x hx => ?_⟩
  · rw [g (hl h)]
    exact (kin_up bs c (hl h)).1
  · rw [g (hl h)]
    exact List.mem_append_right _ (List.mem_singleton.mpr rfl)
  · rw [g (hl h)] at hx
    exact (kin_up bs c (hl h)).2 x hx
  · rw [g (hl h)] at hy ⊢
    have yc := (kin_up bs c (hl h)).2 y hy
    rw [g (by have := hl h; omega)] at hx
    rcases List.mem_append.mp hy with hy | hy
    · rcases List.mem_append.mp hx with hx | hx
      · exact List.mem_append_left _ (elders_trans hv c hy hx)
      · rw [List.mem_singleton.mp hx]
        exact List.mem_append_left _ hy
    · obtain rfl := List.mem_singleton.mp hy
      exact hx
/-- those of a row that have the hue of x -/
def likeH (hs : List (Option Nat)) (row : List Nat) (x : Nat) : List Nat := row.filter fun k => hueOf hs k == hueOf hs x
def depthI (ks : List (List Nat)) (hs : List (Option Nat)) (x : Nat) : Int := ((likeH hs (ks.getD x []) x).length : Int) - 1
def huedR (hs : List (Option Nat)) (row : List Nat) : List Nat := row.filter fun k => (hueOf hs k).isSome
def metOf (ks : List (List Nat)) (hs : List (Option Nat)) (k : Nat) : List Int := [(((hueOf hs k).getD 0 : Nat) : Int), depthI ks hs k]
def metR (ks : List (List Nat)) (hs : List (Option Nat)) (row : List Nat) : List (List Int) := (huedR hs row).map (metOf ks hs)
theorem mem_like {hs : List (Option Nat)} {row : List Nat} {x k : Nat} : k ∈ likeH hs row x ↔ k ∈ row ∧ hueOf hs k = hueOf hs x := by
  unfold likeH
  rw [List.mem_filter, beq_iff_eq]
theorem mem_hued {hs : List (Option Nat)} {row : List Nat} {k : Nat} : k ∈ huedR hs row ↔ k ∈ row ∧ (hueOf hs k).isSome = true := by
  unfold huedR
  rw [List.mem_filter]
theorem like_nodup {hs : List (Option Nat)} {row : List Nat} {x : Nat} (h : row.Pairwise (· < ·)) : (likeH hs row x).Nodup := up_nodup (List.Pairwise.filter _ h)
theorem met_inj {ks : List (List Nat)} {hs : List (Option Nat)} {a b : Nat} (ha : (hueOf hs a).isSome = true) (hb : (hueOf hs b).isSome = true) (h : metOf ks hs a = metOf ks hs b) : hueOf hs a = hueOf hs b ∧ depthI ks hs a = depthI ks hs b := by
  unfold metOf at h
  injection h with h1 h2
  injection h2 with h2 _
  refine ⟨?_, h2⟩
  cases ea : hueOf hs a with
  | none =>
    rw [ea] at ha
    cases ha
  | some x =>
    cases eb : hueOf hs b with
    | none =>
      rw [eb] at hb
      cases hb
    | some y =>
      rw [ea, eb] at h1
      have : x = y := by
        have h1 : (x : Int) = (y : Int) := h1
        omega
      rw [this]
/-- below in the same row and of the same hue: less deep -/
theorem depth_lt {ks : List (List Nat)} (ok : KinsOk ks) {hs : List (Option Nat)} {a b : Nat} (hb : b < ks.length) (hab : a ∈ ks.getD b []) (ne : a ≠ b) (he : hueOf hs a = hueOf hs b) : depthI ks hs a < depthI ks hs b := by
  have alt : a < b := by
    have := ok.le b hb a hab
    omega
  have z := nodup_sub_len' (ks := b :: likeH hs (ks.getD a []) a) (ns := likeH hs (ks.getD b []) b) (List.nodup_cons.mpr ⟨fun h => ?_, like_nodup (ok.up a (by omega))⟩) (fun k hk => ?_)
  · unfold depthI
    rw [List.length_cons] at z
    omega
  · have := ok.le a (by omega) b (mem_like.mp h).1
    omega
  · rcases List.mem_cons.mp hk with rfl | hk
    · exact mem_like.mpr ⟨ok.self _ hb, rfl⟩
    · obtain ⟨h1, h2⟩ := mem_like.mp hk
      exact mem_like.mpr ⟨ok.tr b hb a hab k h1, h2.trans he⟩
theorem nodup_map {α β : Type} {f : α → β} : ∀ {l : List α}, l.Nodup → (∀ a ∈ l, ∀ b ∈ l, f a = f b → a = b) → (l.map f).Nodup
  | [], _, _ => List.nodup_nil
  | x :: r, hn, hi => by
    obtain ⟨h1, h2⟩ := List.nodup_cons.mp hn
    refine List.nodup_cons.mpr ⟨fun h => ?_, nodup_map h2 fun a ha b hb => hi a (List.mem_cons_of_mem _ ha) b (List.mem_cons_of_mem _ hb)⟩
    obtain ⟨y, hy, e⟩ := List.mem_map.mp h
    have := hi y (List.mem_cons_of_mem _ hy) x List.mem_cons_self e
    rw [this] at hy
    exact h1 hy
theorem inj_of_nodup_map {α β : Type} {f : α → β} : ∀ {l : List α}, (l.map f).Nodup → ∀ a ∈ l, ∀ b ∈ l, f a = f b → a = b
  | [], _, a, ha, _, _, _ => by cases ha
  | x :: r, hn, a, ha, b, hb, e => by
    obtain ⟨h1, h2⟩ := List.nodup_cons.mp hn
    rcases List.mem_cons.mp ha with ea | ha'
    · rcases List.mem_cons.mp hb with eb | hb'
      · rw [ea, eb]
      · rw [ea] at e
        exact absurd (e ▸ List.mem_map_of_mem hb') h1
    · rcases List.mem_cons.mp hb with eb | hb'
      · rw [eb] at e
        exact absurd (e ▸ List.mem_map_of_mem ha') h1
      · exact inj_of_nodup_map h2 a ha' b hb' e
theorem condL_iff {ks : List (List Nat)} {hs : List (Option Nat)} {a b : Nat} : condL ks hs a b = true ↔ a < b ∧ (hueOf hs a).isSome = true ∧ hueOf hs a = hueOf hs b ∧ a ∉ ks.getD b [] := by
  unfold condL
  rw [Bool.and_eq_true, Bool.and_eq_true, Bool.and_eq_true, decide_eq_true_eq, beq_iff_eq, Bool.not_eq_true', ← Bool.not_eq_true, List.contains_iff_mem]
/-- unlike depths: where u is not below v it is no less deep -/
theorem depth_ge {ks : List (List Nat)} (ok : KinsOk ks) {hs : List (Option Nat)} {c : Nat} (hc : c < ks.length) (hn : (metR ks hs (ks.getD c [])).Nodup) {u v : Nat} (hu : u ∈ ks.getD c []) (hv : v ∈ ks.getD c []) (hs1 : (hueOf hs u).isSome = true) (he : hueOf hs u = hueOf hs v) (hno : u ∉ ks.getD v []) : ¬ depthI ks hs u < depthI ks hs v := by
  intro hlt
  have vc := ok.le c hc v hv
  have inj : ∀ x ∈ likeH hs (ks.getD c []) v, ∀ y ∈ likeH hs (ks.getD c []) v, depthI ks hs x = depthI ks hs y → x = y := fun x hx y hy e => by
    obtain ⟨x1, x2⟩ := mem_like.mp hx
    obtain ⟨y1, y2⟩ := mem_like.mp hy
    have hxs : (hueOf hs x).isSome = true := by rw [x2, ← he]; exact hs1
    have hys : (hueOf hs y).isSome = true := by rw [y2, ← he]; exact hs1
    refine inj_of_nodup_map hn x (mem_hued.mpr ⟨x1, hxs⟩) y (mem_hued.mpr ⟨y1, hys⟩) ?_
    unfold metOf
    rw [x2, y2, e]
  -- the less deep ones of this row
  let T := (likeH hs (ks.getD c []) v).filter fun x => decide (depthI ks hs x < depthI ks hs v)
  have memT : ∀ x, x ∈ T ↔ (x ∈ ks.getD c [] ∧ hueOf hs x = hueOf hs v) ∧ depthI ks hs x < depthI ks hs v := fun x => by
    show x ∈ List.filter _ _ ↔ _
    rw [List.mem_filter, mem_like, decide_eq_true_eq]
  have d0 : ∀ x, x ∈ ks.getD c [] → 0 ≤ depthI ks hs x := fun x hx => by
    have xc := ok.le c hc x hx
    have : 0 < (likeH hs (ks.getD x []) x).length := List.length_pos_of_mem (mem_like.mpr ⟨ok.self x (by omega), rfl⟩)
    unfold depthI
    omega
  have nT : T.Nodup := List.Pairwise.filter _ (like_nodup (ok.up c hc))
  have small : T.length ≤ (depthI ks hs v).toNat := by
    have z := nodup_sub_len' (ks := T.map fun x => (depthI ks hs x).toNat) (ns := List.range (depthI ks hs v).toNat) (nodup_map nT fun x hx y hy e => ?_) (fun k hk => ?_)
    · rw [List.length_map, List.length_range] at z
      exact z
    · obtain ⟨⟨x1, x2⟩, _⟩ := (memT x).mp hx
      obtain ⟨⟨y1, y2⟩, _⟩ := (memT y).mp hy
      have q1 := d0 x x1
      have q2 := d0 y y1
      exact inj x (mem_like.mpr ⟨x1, x2⟩) y (mem_like.mpr ⟨y1, y2⟩) (by have e : (depthI ks hs x).toNat = (depthI ks hs y).toNat := e; omega)
    · obtain ⟨x, hx, rfl⟩ := List.mem_map.mp hk
      obtain ⟨⟨x1, _⟩, x3⟩ := (memT x).mp hx
      have q1 := d0 x x1
      rw [List.mem_range]
      omega
  have lv : (likeH hs (ks.getD v []) v).Nodup := like_nodup (ok.up v (by omega))
  have vin : v ∈ likeH hs (ks.getD v []) v := mem_like.mpr ⟨ok.self v (by omega), rfl⟩
  have big := nodup_sub_len' (ks := u :: (likeH hs (ks.getD v []) v).erase v) (ns := T) (List.nodup_cons.mpr ⟨fun h => hno (mem_like.mp (List.mem_of_mem_erase h)).1, lv.erase v⟩) (fun k hk => ?_)
  · rw [List.length_cons, List.length_erase_of_mem vin] at big
    have := List.length_pos_of_mem vin
    unfold depthI at small
    omega
  · rcases List.mem_cons.mp hk with rfl | hk
    · exact (memT _).mpr ⟨⟨hu, he⟩, hlt⟩
    · obtain ⟨ne, hk⟩ := (lv.mem_erase_iff).mp hk
      obtain ⟨k1, k2⟩ := mem_like.mp hk
      exact (memT k).mpr ⟨⟨ok.tr c hc v hv k k1, k2⟩, depth_lt ok (by omega) k1 ne k2⟩
/-- no clash exactly if no row has two of one hue at one depth -/
theorem clash_iff {ks : List (List Nat)} (ok : KinsOk ks) (hs : List (Option Nat)) (c : Nat) (hc : c < ks.length) : (∀ a ∈ ks.getD c [], ∀ b ∈ ks.getD c [], condL ks hs a b = false) ↔ (metR ks hs (ks.getD c [])).Nodup := by
  constructor
  · intro h
    have main : ∀ a b, a ∈ ks.getD c [] → b ∈ ks.getD c [] → (hueOf hs a).isSome = true → (hueOf hs b).isSome = true → metOf ks hs a = metOf ks hs b → ¬ a < b := fun a b ha hb sa sb e lt => by
      obtain ⟨e1, e2⟩ := met_inj sa sb e
      have bc := ok.le c hc b hb
      have inb : a ∈ ks.getD b [] := by
        apply Classical.byContradiction
        intro q
        have z := h a ha b hb
        rw [condL_iff.mpr ⟨lt, sa, e1, q⟩] at z
        cases z
      have := depth_lt ok (by omega) inb (by omega) e1
      omega
    refine nodup_map (up_nodup (List.Pairwise.filter _ (ok.up c hc))) fun a ha b hb e => ?_
    obtain ⟨a1, a2⟩ := mem_hued.mp ha
    obtain ⟨b1, b2⟩ := mem_hued.mp hb
    have z1 := main a b a1 b1 a2 b2 e
    have z2 := main b a b1 a1 b2 a2 e.symm
    omega
  · intro h a ha b hb
    apply Classical.byContradiction
    intro q
    have q : condL ks hs a b = true := by
      cases e : condL ks hs a b with
      | false => exact absurd e q
      | true => rfl
    obtain ⟨lt, sa, e, no⟩ := condL_iff.mp q
    have bc := ok.le c hc b hb
    have n1 := depth_ge ok hc h ha hb sa e no
    have n2 := depth_ge ok hc h hb ha (by rw [← e]; exact sa) e.symm (fun z => by have := ok.le a (by omega) b z; omega)
    have : metOf ks hs a = metOf ks hs b := by
      unfold metOf
      rw [e, show depthI ks hs a = depthI ks hs b by omega]
    have := inj_of_nodup_map h a (mem_hued.mpr ⟨ha, sa⟩) b (mem_hued.mpr ⟨hb, by rw [← e]; exact sa⟩) this
    omega
/-- the first clash of all rows -/
def FirstC (ks : List (List Nat)) (hs : List (Option Nat)) (o : Option (List Nat)) : Prop :=
  (o = none ∧ ∀ c < ks.length, Least (condL ks hs) (ks.getD c []) none) ∨ ∃ c a b, o = some [c, a, b] ∧ c < ks.length ∧ (∀ c' < c, Least (condL ks hs) (ks.getD c' []) none) ∧ Least (condL ks hs) (ks.getD c []) (some [a, b])
theorem FirstC.one {ks : List (List Nat)} {hs : List (Option Nat)} {o o' : Option (List Nat)} (h : FirstC ks hs o) (h' : FirstC ks hs o') : o = o' := by
  rcases h with ⟨rfl, h⟩ | ⟨c, a, b, rfl, h1, h2, h3⟩
  · rcases h' with ⟨rfl, _⟩ | ⟨c, a, b, rfl, h1, h2, h3⟩
    · rfl
    · cases (h c h1).one h3
  · rcases h' with ⟨rfl, h⟩ | ⟨c', a', b', rfl, h1', h2', h3'⟩
    · cases (h c h1).one h3
    · have e : c = c' := by
        apply Classical.byContradiction
        intro q
        by_cases l : c < c'
        · cases (h2' c l).one h3
        · cases (h2 c' (by omega)).one h3'
      subst e
      have z := h3.one h3'
      injection z with z
      rw [z]
theorem FirstC.none_iff {ks : List (List Nat)} (ok : KinsOk ks) {hs : List (Option Nat)} {o : Option (List Nat)} (h : FirstC ks hs o) : o = none ↔ ∀ row ∈ ks, (metR ks hs row).Nodup := by
  have none_of : ∀ c, Least (condL ks hs) (ks.getD c []) none ↔ ∀ a ∈ ks.getD c [], ∀ b ∈ ks.getD c [], condL ks hs a b = false := fun c => by
    constructor
    · rintro (⟨_, h⟩ | ⟨a, b, h, _⟩)
      · exact h
      · cases h
    · intro h
      exact .inl ⟨rfl, h⟩
  constructor
  · rintro rfl row hr
    obtain ⟨c, hc⟩ := List.mem_iff_getElem?.mp hr
    have hl := (List.getElem?_eq_some_iff.mp hc).1
    have e : ks.getD c [] = row := by
      rw [List.getD_eq_getElem?_getD, hc]
      rfl
    rcases h with ⟨_, h⟩ | ⟨_, _, _, z, _⟩
    · have z := (clash_iff ok hs c hl).mp ((none_of c).mp (h c hl))
      rw [e] at z
      exact z
    · cases z
  · intro hm
    rcases h with ⟨rfl, _⟩ | ⟨c, a, b, rfl, h1, h2, h3⟩
    · rfl
    · have e : ks.getD c [] ∈ ks := by
        rw [List.getD_eq_getElem?_getD, List.getElem?_eq_getElem h1]
        exact List.getElem_mem h1
      have z := (none_of c).mpr ((clash_iff ok hs c h1).mpr (hm _ e))
      cases z.one h3
end K16

set_option maxRecDepth 100000
set_option maxHeartbeats 8000000
namespace K16
open PySem PySem.Spec PyProof.Rows L2 Kw
/-- a class of one's own, by the fields it keeps -/
structure ClsF (K : PySem.W.Frag) (C : Addr) (fs : List Str) : Prop where
  cl : Cls K C
  no : ∀ f ∈ fs, NoAttr K C f
def ClashAt (H : Hp) (p Cc : Addr) (l : List Nat) : Prop := ∃ dx c a b, l = [c, a, b] ∧ H p = some (.ins Cc dx [("cls", natV c), ("first", natV a), ("second", natV b)])
def OptClash (H : Hp) (Cc : Addr) (v : V) (o : Option (List Nat)) : Prop := (o = none ∧ v = .non) ∨ ∃ l p, o = some l ∧ v = .ref p ∧ ClashAt H p Cc l
theorem cut_tail (xs : List V) (i : Nat) (h : i < xs.length) : ¬ (HT.sIx xs.length 0 (some ((i : Int) + 1)) = 0 ∧ HT.sIx xs.length xs.length none = xs.length) ∧ cutV xs (some ((i : Int) + 1)) none = xs.drop (i + 1) := by
  have e : ((i : Int) + 1) = ((i + 1 : Nat) : Int) := by omega
  rw [e]
  constructor
  · rw [HT.sIx_nat]
    omega
  · unfold cutV
    rw [HT.sIx_nat, HT.sIx_none, Nat.min_eq_left (by omega), List.take_of_length_le (by rw [List.length_drop]; exact Nat.le_refl _)]
theorem kins_els {ds : List Ent} {x : Nat} (h : x < ds.length) : (kins (elsOf ds)).getD x [] = (elsOf ds).getD x [] ++ [x] := kins_getD (by rw [elsOf_len]; exact h)
/-- behind one's own place: on one line means below -/
theorem line_kin {ds : List Ent} {a b : Nat} (hab : a < b) (hb : b < ds.length) : onLine (elsOf ds) a b = ((kins (elsOf ds)).getD b []).contains a := by
  rw [kins_els hb]
  unfold onLine
  have e1 : decide (a = b) = false := decide_eq_false (by omega)
  have e2 : ((elsOf ds).getD a []).contains b = false := by
    cases e : ((elsOf ds).getD a []).contains b with
    | false => rfl
    | true =>
      have := elders_below (List.contains_iff_mem.mp e)
      omega
  rw [e1, e2, Bool.false_or, Bool.or_false, Bool.eq_iff_iff, List.contains_iff_mem, List.contains_iff_mem, List.mem_append, List.mem_singleton]
  exact ⟨.inl, fun h => h.resolve_right (by omega)⟩
section
variable {P : Program} {w : World} {K : PySem.W.Frag} {mg : Str → Option Value} {base : Heap} {f fS fW fN fC fL fI fU fH fA C Cn Cc : Addr} {fd fdS fdW fdN fdC fdL fdI fdU fdH fdA : FuncData}
/-! ### is_hue -/
def spIsHue : Sp := fun vs H Q _ => ∃ o : Option Nat, vs = [hV o] ∧ (∀ h, o = some h → h < 8) ∧ Q (.bl true) H
theorem sc_isHue : FnScope ["thing"] ["thing"] (defScope (top 24)) := ⟨rfl, rfl, rfl, by decide +kernel, rfl, by decide +kernel, by decide +kernel⟩
theorem ok_isHue (F : FnP K "is_hue" 24 f fd) (B : Fr mg) (z7 : ∃ t, mg "MOST_HUE" = some (.int 7 t)) (FW : FnDf K "is_whole" 12 [.non, .non] fW fdW) (mW : mg "is_whole" = some (.ref fW)) : FnOk P w K mg base CX0 2 f fd ["thing"] spIsHue := by
  have GW : FnOk P w K mg base CX0 1 fW fdW ["thing", "low", "high"] spWhole := ok_whole FW B
  have bW := binds_whole3 FW
  obtain ⟨t7, z7⟩ := z7
  refine F.ok sc_isHue (fun vs H Q E h => ?_) (fun cdv A outer s H vs Q E hr h => ?_)
  · obtain ⟨o, rfl, _⟩ := h
    rfl
  · obtain ⟨o, rfl, ho, k⟩ := h
    refine ⟨_, PSs.nox (pss_one (ps_ret (pe_or (pe_cmpR op_isN (pv 0) pe_non (nomark _)) (pe_one (pe_call GW hr (by rfl) mW FW.kp bW .nil pass0 (pa_cons (pv 0) (pa_cons pe_int (pa_cons (pe_glob (v := .int 7) (by rfl) z7 ⟨_, rfl⟩) pa_nil)))))))), ?_⟩
    refine ⟨_, rfl, rfl, _, rfl, ?_⟩
    cases o with
    | none => exact iteT' rfl k
    | some h =>
      have e : wholeB (.int 0) (.int 7) (natV h) = true := whole_of (n := 8) (ho h rfl)
      refine iteF' rfl ⟨_, rfl, natV h, .int 0, .int 7, "int", rfl, .int _, .inr ⟨_, rfl⟩, .inr ⟨_, rfl⟩, ?_⟩
      rw [e]
      exact k
/-! ### check_hues -/
def spCheckHues (C : Addr) : Sp := fun vs H Q _ => ∃ (p a : Addr) (ds : List Ent) (hs : List (Option Nat)), vs = [.ref p, .ref a] ∧ WorldAt H p C ds ∧ SeqAt H a (hs.map hV) ∧ hs.length = ds.length ∧ hs.length ≤ 12 ∧ (∀ o ∈ hs, ∀ h, o = some h → h < 8) ∧
  ∀ t H', Same H H' → H' t = some (.tup (hs.map hV)) → Q (.ref t) H'
theorem sc_checkHues : FnScope ["world", "hues", "index", "hue"] ["world", "hues"] (defScope (top 25)) := ⟨rfl, rfl, rfl, by decide +kernel, rfl, by decide +kernel, by decide +kernel⟩
theorem ok_checkHues (F : FnP K "check_hues" 25 f fd) (B : Fr mg) (TC : ClsWorld K mg C) (z7 : ∃ t, mg "MOST_HUE" = some (.int 7 t)) (FW : FnDf K "is_whole" 12 [.non, .non] fW fdW) (mW : mg "is_whole" = some (.ref fW)) (FS : FnP K "is_sequence" 11 fS fdS) (mS : mg "is_sequence" = some (.ref fS)) (FU : FnP K "is_hue" 24 fU fdU) (mU : mg "is_hue" = some (.ref fU)) :
    FnOk P w K mg base CX0 3 f fd ["world", "hues"] (spCheckHues C) := by
  have GS : FnOk P w K mg base CX0 1 fS fdS ["thing"] spIsSeq := ok_isSeq FS B
  have bS : L2.Binds K fdS ["thing"] [] := FS.bindsN fun _ _ _ _ _ _ us hl => match us, hl with | [_], _ => rfl
  have GU : FnOk P w K mg base CX0 2 fU fdU ["thing"] spIsHue := ok_isHue FU B z7 FW mW
  have bU : L2.Binds K fdU ["thing"] [] := FU.bindsN fun _ _ _ _ _ _ us hl => match us, hl with | [_], _ => rfl
  refine F.ok sc_checkHues (fun vs H Q E h => ?_) (fun cdv A outer s H vs Q E hr h => ?_)
  · obtain ⟨p, a, ds, hs, rfl, _⟩ := h
    rfl
  · obtain ⟨p, a, ds, hs, rfl, hw, hA, hl, h12, h8, k⟩ := h
    refine ⟨_, PSs.nox (pss_cons (ps_if (PW.pt (pw_or (pt_not (pt_val (pe_call GS (hr.mono (by decide)) (by rfl) mS FS.kp bS .nil pass0 (pa_cons (pv 1) pa_nil)))) (pw_or1 (pt_cmpR op_ne (pe_callB call_len_seq (by rfl) B.len PySem.boot_len (pa_cons (pv 1) pa_nil)) (pe_callB call_len_seq (by rfl) B.len PySem.boot_len (pa_cons (pe_fld (pv 0) rfl) pa_nil)) (nomark _)))))
        (pss_one ps_never) pss_nil)
      (pss_cons (ps_for PassesOwn.never rfl (pi_or (pi_enum (by rfl) B.enumerate (pa_cons (pv 1) pa_nil)) (pi_enumT (by rfl) B.enumerate (pa_cons (pv 1) pa_nil))) (pg_tup (by rfl) (pgs_cons (pg_name (i := 2) sc_checkHues.nd rfl (Or.inl rfl)) (pgs_cons (pg_name (i := 3) sc_checkHues.nd rfl (Or.inl rfl)) pgs_nil)))
        (pss_one (ps_if (pt_not (pt_val (pe_call GU hr (by rfl) mU FU.kp bU .nil pass0 (pa_cons (pv 3) pa_nil)))) (pss_one ps_never) pss_nil)))
      (pss_one (ps_ret (pe_callTy (T := "tuple") (r := rTupOf K) (call_tup (X := _)) (by rfl) B.tuple (by decide +kernel) (pa_cons (pv 1) pa_nil)))))), ?_⟩
    obtain ⟨ty, tyA, hseq⟩ := hA.ty
    refine ⟨_, rfl, _, ty, rfl, tyA, fun H1 s1 => ⟨_, rfl, ?_⟩⟩
    rw [hseq]
    have hw1 := hw.mono s1
    have hA1 := hA.same s1
    obtain ⟨dx, ac, ab, ao, am, ae, ah, cs, bs, ms, es, hs', h1, h2, h3, _⟩ := hw1
    refine iteF ⟨_, rfl, a, _, rfl, hA1.sq, _, rfl, p, C, dx, _, _, rfl, h1, TC.cl, TC.no _ (List.mem_of_getElem? (i := 0) rfl), rfl, ac, cs, rfl, .inr (SqT.of h2), rfl, _, rfl, ?_⟩
    rw [h3.len, List.length_map, hl]
    refine iteF' (by simp) ?_
    refine for_enumS (K := K) (a := a) (xs := hs.map hV) rfl hA s1 (fun i σ H' => Same H H' ∧ ∃ x2 x3, σ = [some (.ref p), some (.ref a), x2, x3]) ⟨s1, _, _, rfl⟩ (fun i σ H' h => h.1) ?_ ?_
    · rintro i e σ H' T hi ⟨sH, x2, x3, rfl⟩ hT
      rw [List.getElem?_map] at hi
      obtain ⟨o, ho, rfl⟩ := Option.map_eq_some_iff.mp hi
      refine ⟨T, _, rfl, SqT.of upd_same, rfl, _, _, rfl, _, _, rfl, rfl, ?_⟩
      refine ⟨_, rfl, o, rfl, h8 o (List.mem_of_getElem? ho), _, rfl, iteF' rfl ⟨sH.trans (same_new hT), _, _, rfl⟩⟩
    · rintro σ H' ⟨sH, x2, x3, rfl⟩
      refine ⟨_, rfl, ?_⟩
      exact tup_q (hA.same sH) fun t H2 s2 ht => k t H2 (sH.trans s2) ht
/-! ### Clash -/
def spClashI (Cc : Addr) : Sp := fun vs H Q _ => ∃ (p dx : Addr) (x y z : V), vs = [.ref p, x, y, z] ∧ H p = some (.ins Cc dx []) ∧ ∀ H', Oth p H H' → H' p = some (.ins Cc dx [("cls", x), ("first", y), ("second", z)]) → Q .non H'
theorem sc_clashI : FnScope ["self", "cls", "first", "second"] ["self", "cls", "first", "second"] (defScope (inClass (top 21) 0)) := ⟨rfl, rfl, rfl, by decide +kernel, rfl, by decide +kernel, by decide +kernel⟩
theorem ok_clashI (F : FnM K "__init__" "Clash.__init__" (inClass (top 21) 0) f fd) (T : ClsF K Cc ["cls", "first", "second"]) : FnOk P w K mg base CX0 1 f fd ["self", "cls", "first", "second"] (spClashI Cc) ∧ Binds K fd ["self", "cls", "first", "second"] [] := by
  refine ⟨F.ok sc_clashI (fun vs H Q E h => ?_) (fun cdv A outer s H vs Q E hr h => ?_), F.bindsN fun _ _ _ _ _ _ us hl => match us, hl with | [_, _, _, _], _ => rfl⟩
  · obtain ⟨p, dx, x, y, z, rfl, _⟩ := h
    rfl
  · obtain ⟨p, dx, x, y, z, rfl, hp, k⟩ := h
    refine ⟨_, PSs.nox (pss_cons (ps_fld (pv 0) (pv 1) rfl) (pss_cons (ps_fld (pv 0) (pv 2) rfl) (pss_one (ps_fld (pv 0) (pv 3) rfl)))), ?_⟩
    refine ⟨_, rfl, _, rfl, p, Cc, dx, [], rfl, hp, T.cl, T.no _ (List.mem_of_getElem? (i := 0) rfl), by simp, ?_⟩
    refine ⟨_, rfl, _, rfl, p, Cc, dx, _, rfl, upd_same, T.cl, T.no _ (List.mem_of_getElem? (i := 1) rfl), (by show 1 < _; decide), ?_⟩
    refine ⟨_, rfl, _, rfl, p, Cc, dx, _, rfl, upd_same, T.cl, T.no _ (List.mem_of_getElem? (i := 2) rfl), (by show 2 < _; decide), ?_⟩
    exact k _ (Oth.upd (Oth.upd (Oth.upd (Oth.of (Same.refl H))))) upd_same
end
end K16

set_option maxRecDepth 100000
set_option maxHeartbeats 8000000
namespace K16
open PySem PySem.Spec PyProof.Rows L2 Kw
section
variable {P : Program} {w : World} {K : PySem.W.Frag} {mg : Str → Option Value} {base : Heap} {f fS fW fN fC fL fI fU fH fA C Cn Cc : Addr} {fd fdS fdW fdN fdC fdL fdI fdU fdH fdA : FuncData}
def spClashAm (C Cc : Addr) : Sp := fun vs H Q _ => ∃ (p r am : Addr) (c : Nat) (ds : List Ent) (hs : List (Option Nat)) (xs : List Nat), vs = [.ref p, .ref r, natV c, .ref am] ∧ WorldAt H p C ds ∧ H r = some (.tup (hs.map hV)) ∧ H am = some (.tup (xs.map natV)) ∧ xs.Pairwise (· < ·) ∧ (∀ x ∈ xs, x < ds.length ∧ x < hs.length) ∧ xs.length ≤ 12 ∧
  ∀ v H' o, Same H H' → Least (condL (kins (elsOf ds)) hs) xs o → OptClash H' Cc v (o.map (c :: ·)) → Q v H'
theorem sc_clashAm : FnScope ["world", "hues", "c", "among", "k", "first", "second"] ["world", "hues", "c", "among"] (defScope (top 27)) := ⟨rfl, rfl, rfl, by decide +kernel, rfl, by decide +kernel, by decide +kernel⟩
theorem ok_clashAm (F : FnP K "clash_among" 27 f fd) (B : Fr mg) (TC : ClsWorld K mg C) (FL : FnP K "on_line" 17 fL fdL) (mL : mg "on_line" = some (.ref fL)) (FC : FnP K "check_class" 15 fC fdC) (mC : mg "check_class" = some (.ref fC)) (FW : FnDf K "is_whole" 12 [.non, .non] fW fdW) (mW : mg "is_whole" = some (.ref fW)) (FN : FnM K "__init__" "NoClass.__init__" (inClass (top 5) 0) fN fdN) (TN : ErrX K mg "NoClass" ["cls"] Cn fN)
    (FI : FnM K "__init__" "Clash.__init__" (inClass (top 21) 0) fI fdI) (TI : ClsF K Cc ["cls", "first", "second"]) (MI : Mk K Cc fI) (mI : mg "Clash" = some (.ref Cc)) :
    FnOk P w K mg base (L2.CX P w) 5 f fd ["world", "hues", "c", "among"] (spClashAm C Cc) := by
  have GL : FnOk P w K mg base (L2.CX P w) 4 fL fdL ["world", "a", "b"] (spOnLine C Cn) := ok_onLine FL B TC FC mC FW mW FN TN
  have bL : L2.Binds K fdL ["world", "a", "b"] [] := FL.bindsN fun _ _ _ _ _ _ us hl => match us, hl with | [_, _, _], _ => rfl
  obtain ⟨GI, bI⟩ : FnOk P w K mg base CX0 1 fI fdI ["self", "cls", "first", "second"] (spClashI Cc) ∧ Binds K fdI ["self", "cls", "first", "second"] [] := ok_clashI FI TI
  refine F.ok sc_clashAm (fun vs H Q E h => ?_) (fun cdv A outer s H vs Q E hr h => ?_)
  · obtain ⟨p, r, am, c, ds, hs, xs, rfl, _⟩ := h
    rfl
  · obtain ⟨p, r, am, c, ds, hs, xs, rfl, hw, hR, hM, up, hx, h12, k⟩ := h
    refine ⟨_, (pss_cons (ps_for (passes_of rfl) rfl (pi_enumT (by rfl) B.enumerate (pa_cons (pv 3) pa_nil)) (pg_tup (by rfl) (pgs_cons (pg_name (i := 4) sc_clashAm.nd rfl (Or.inl rfl)) (pgs_cons (pg_name (i := 5) sc_clashAm.nd rfl (Or.inl rfl)) pgs_nil)))
        (pss_one (ps_for (passes_of rfl) rfl (pi_tup (pe_slice sl_tup (pv 3) (po_some (pe_op op_add (pv 4) pe_int)) po_none)) (pg_name (i := 6) sc_clashAm.nd rfl (Or.inl rfl))
          (pss_one (ps_if (PW.pt (pw_and (pt_cmpR op_notN (pe_ix (r := rIxT K) ix_tup (pv 1) (pv 5) (fun _ _ => rfl)) pe_non (nomark _))
              (pw_and (pt_cmpR op_eq (pe_ix (r := rIxT K) ix_tup (pv 1) (pv 5) (fun _ _ => rfl)) (pe_ix (r := rIxT K) ix_tup (pv 1) (pv 6) (fun _ _ => rfl)) (nomark _))
                (pw_and1 (pt_not (pt_val (pe_callS GL hr (by rfl) mL FL.kp bL (fun σ => passAt (takes_of rfl rfl rfl rfl) σ) (pa_cons (pv 0) (pa_cons (pv 5) (pa_cons (pv 6) pa_nil))))))))))
            (pss_one (ps_ret (pe_make MI GI (hr.mono (by decide)) (by rfl) mI bI .nil pass0 (pa_cons (pv 2) (pa_cons (pv 5) (pa_cons (pv 6) pa_nil)))))) pss_nil)))))
      (pss_one (ps_ret pe_non))), ?_⟩
    refine ⟨_, rfl, am, _, rfl, SqT.of hM, for_enumT (K := K) (a := am) (xs := xs.map natV) (fun i σ H' => Same H H' ∧ (∃ x4 x5 x6, σ = [some (.ref p), some (.ref r), some (natV c), some (.ref am), x4, x5, x6]) ∧ ∀ i' a, i' < i → xs[i']? = some a → ∀ b ∈ xs, condL (kins (elsOf ds)) hs a b = false)
      ⟨Same.refl H, ⟨_, _, _, rfl⟩, fun i' a z => absurd z (Nat.not_lt_zero _)⟩ (fun i σ H' _ h => SqT.of (h.1 _ _ hM)) ?_ ?_⟩
    · rintro i y σ H' T hi ⟨sH, ⟨x4, x5, x6, rfl⟩, hno⟩ hT
      rw [List.getElem?_map] at hi
      obtain ⟨a, ha, rfl⟩ := Option.map_eq_some_iff.mp hi
      obtain ⟨ad, ah⟩ := hx a (List.mem_of_getElem? ha)
      have hil := (List.getElem?_eq_some_iff.mp ha).1
      refine ⟨T, _, rfl, SqT.of upd_same, rfl, _, _, rfl, _, _, rfl, rfl, ?_⟩
      have sT := sH.trans (same_new (o := .tup [.int (i : Nat), natV a]) hT)
      generalize hG : upd H' T (.tup [.int (i : Nat), natV a]) = G at sT ⊢
      obtain ⟨c1, c2⟩ := cut_tail (xs.map natV) i (by rw [List.length_map]; exact hil)
      refine ⟨_, rfl, _, rfl, _, _, rfl, rfl, _, rfl, am, xs.map natV, rfl, SqT.of (sT _ _ hM), c1, fun S hS => ?_⟩
      rw [c2, ← List.map_drop]
      have sS := sT.trans (same_new (o := .tup ((xs.drop (i + 1)).map natV)) hS)
      have hSS : upd G S (.tup ((xs.drop (i + 1)).map natV)) S = some (.tup ((xs.drop (i + 1)).map natV)) := upd_same
      generalize hG2 : upd G S (.tup ((xs.drop (i + 1)).map natV)) = G2 at sS hSS ⊢
      refine ⟨S, rfl, ⟨_, SqT.of hSS⟩, for_tup (K := K) (a := S) (xs := (xs.drop (i + 1)).map natV) (fun j σ H' => Same H H' ∧ Same G2 H' ∧ (∃ x6, σ = [some (.ref p), some (.ref r), some (natV c), some (.ref am), some (.int (i : Nat)), some (natV a), x6]) ∧ ∀ j' b, j' < j → (xs.drop (i + 1))[j']? = some b → condL (kins (elsOf ds)) hs a b = false)
        ⟨sS, Same.refl _, ⟨_, rfl⟩, fun i' a z => absurd z (Nat.not_lt_zero _)⟩ (fun i σ H' _ h => SqT.of (h.2.1 _ _ hSS)) ?_ ?_⟩
      · rintro j y σ H2 hj ⟨s2, t2, ⟨x6, rfl⟩, hno2⟩
        rw [List.getElem?_map] at hj
        obtain ⟨b, hb, rfl⟩ := Option.map_eq_some_iff.mp hj
        have hbx : xs[i + 1 + j]? = some b := by
          rw [List.getElem?_drop] at hb
          exact hb
        obtain ⟨bd, bh⟩ := hx b (List.mem_of_getElem? hbx)
        have order : ∀ {m n x y : Nat}, xs[m]? = some x → xs[n]? = some y → m < n → x < y := fun hm hn l => by
          obtain ⟨m1, e1⟩ := List.getElem?_eq_some_iff.mp hm
          obtain ⟨n1, e2⟩ := List.getElem?_eq_some_iff.mp hn
          rw [← e1, ← e2]
          exact List.pairwise_iff_getElem.mp up _ _ m1 n1 l
        have ab : a < b := order ha hbx (by omega)
        have next : condL (kins (elsOf ds)) hs a b = false → ∀ H3, Same H2 H3 → Same H H3 ∧ Same G2 H3 ∧ (∃ x6, ([some (.ref p), some (.ref r), some (natV c), some (.ref am), some (.int (i : Nat)), some (natV a), some (natV b)] : L2.St) = [some (.ref p), some (.ref r), some (natV c), some (.ref am), some (.int (i : Nat)), some (natV a), x6]) ∧ ∀ j' b, j' < j + 1 → (xs.drop (i + 1))[j']? = some b → condL (kins (elsOf ds)) hs a b = false := fun e H3 s3 => by
          refine ⟨s2.trans s3, t2.trans s3, ⟨_, rfl⟩, fun j' b' hj' hb' => ?_⟩
          by_cases z : j' = j
          · rw [z, hb] at hb'
            rw [← Option.some.inj hb']
            exact e
          · exact hno2 j' b' (by omega) hb'
        have hR2 := s2 _ _ hR
        refine ⟨_, rfl, _, rfl, r, _, _, _, rfl, rfl, SqT.of hR2, atI_nat (hue_at ah), rfl, _, rfl, ?_⟩
        rw [hV_non]
        cases c2 : (hueOf hs a).isNone with
        | true =>
          refine iteF (next ?_ _ (Same.refl _))
          unfold condL
          rw [← Option.not_isNone, c2]
          simp
        | false =>
          refine iteT ⟨_, rfl, _, rfl, r, _, _, _, rfl, rfl, SqT.of hR2, atI_nat (hue_at ah), _, rfl, _, rfl, r, _, _, _, rfl, rfl, SqT.of hR2, atI_nat (hue_at bh), hV_scal _ _, _, rfl, ?_⟩
          rw [hV_eq]
          cases c3 : (hueOf hs a == hueOf hs b) with
          | false =>
            refine iteF (next ?_ _ (Same.refl _))
            unfold condL
            rw [c3]
            simp
          | true =>
            refine iteT ⟨_, rfl, _, rfl, _, rfl, p, natV a, natV b, "int", "int", ds, rfl, hw.mono s2, .int _, .int _, .inr (.inr ⟨a, b, rfl, rfl, ad, bd, fun H3 s3 => ?_⟩)⟩
            refine ⟨_, rfl, ?_⟩
            rw [line_kin ab bd]
            cases c4 : ((kins (elsOf ds)).getD b []).contains a with
            | true =>
              refine iteF' rfl (next ?_ _ s3)
              unfold condL
              rw [c4]
              simp
            | false =>
              have cond : condL (kins (elsOf ds)) hs a b = true := by
                unfold condL
                rw [c4, c3, ← Option.not_isNone, c2, decide_eq_true ab]
                rfl
              refine iteT' rfl ⟨_, rfl, _, rfl, _, rfl, fun q dx hq hdx ne => ?_⟩
              refine ⟨q, dx, natV c, natV a, natV b, rfl, upd_same, fun H4 O4 h4 => ⟨rfl, ?_⟩⟩
              have s34 : Same H3 H4 := fun u o e => O4 _ _ (ne_of_none e hq) (upB (ne_of_none e hq) (upB (ne_of_none e hdx) e))
              refine k _ _ (some [a, b]) ((s2.trans s3).trans s34) (.inr ⟨a, b, rfl, List.mem_of_getElem? ha, List.mem_of_getElem? hbx, cond, fun a' ha' b' hb' hc => ?_⟩) (.inr ⟨_, q, rfl, rfl, dx, c, a, b, rfl, h4⟩)
              obtain ⟨i', hi'⟩ := List.mem_iff_getElem?.mp ha'
              obtain ⟨j', hj'⟩ := List.mem_iff_getElem?.mp hb'
              by_cases q1 : i' < i
              · rw [hno i' a' q1 hi' b' hb'] at hc
                cases hc
              · by_cases q2 : i' = i
                · rw [q2, ha] at hi'
                  obtain rfl := Option.some.inj hi'
                  have l1 := (condL_iff.mp hc).1
                  have ij : i < j' := by
                    apply Classical.byContradiction
                    intro z
                    by_cases z2 : j' = i
                    · rw [z2, ha] at hj'
                      have := Option.some.inj hj'
                      omega
                    · have := order hj' ha (by omega)
                      omega
                  by_cases q3 : j' - (i + 1) < j
                  · rw [hno2 (j' - (i + 1)) b' q3 (by rw [List.getElem?_drop, show i + 1 + (j' - (i + 1)) = j' by omega]; exact hj')] at hc
                    cases hc
                  · by_cases q4 : j' = i + 1 + j
                    · rw [q4, hbx] at hj'
                      obtain rfl := Option.some.inj hj'
                      exact .inr ⟨rfl, Nat.le_refl _⟩
                    · exact .inr ⟨rfl, Nat.le_of_lt (order hbx hj' (by omega))⟩
                · exact .inl (order ha hi' (by omega))
      · rintro σ H2 ⟨s2, t2, ⟨x6, rfl⟩, hno2⟩
        refine ⟨s2, ⟨_, _, _, rfl⟩, fun i' a' hi' ha' b hb => ?_⟩
        by_cases z : i' = i
        · rw [z, ha] at ha'
          obtain rfl := Option.some.inj ha'
          obtain ⟨j, hj⟩ := List.mem_iff_getElem?.mp hb
          have hjl := (List.getElem?_eq_some_iff.mp hj).1
          by_cases q : i < j
          · exact hno2 (j - (i + 1)) b (by rw [List.length_map, List.length_drop]; omega) (by rw [List.getElem?_drop, show i + 1 + (j - (i + 1)) = j by omega]; exact hj)
          · have ba : b ≤ a := by
              by_cases q2 : j = i
              · rw [q2, ha] at hj
                exact Nat.le_of_eq (Option.some.inj hj).symm
              · obtain ⟨m1, e1⟩ := List.getElem?_eq_some_iff.mp hj
                obtain ⟨n1, e2⟩ := List.getElem?_eq_some_iff.mp ha
                rw [← e1, ← e2]
                exact Nat.le_of_lt (List.pairwise_iff_getElem.mp up _ _ m1 n1 (by omega))
            cases e : condL (kins (elsOf ds)) hs a b with
            | false => rfl
            | true =>
              have := (condL_iff.mp e).1
              omega
        · exact hno i' a' (by omega) ha' b hb
    · rintro σ H' ⟨sH, ⟨x4, x5, x6, rfl⟩, hno⟩
      refine k .non H' none sH (.inl ⟨rfl, fun a ha b hb => ?_⟩) (.inl ⟨rfl, rfl⟩)
      obtain ⟨i, hi⟩ := List.mem_iff_getElem?.mp ha
      have hil := (List.getElem?_eq_some_iff.mp hi).1
      exact hno i a (by rw [List.length_map]; exact hil) hi b hb
end
end K16

set_option maxRecDepth 100000
set_option maxHeartbeats 8000000
namespace K16
open PySem PySem.Spec PyProof.Rows L2 Kw
/-! ### nested tuples of numbers as data -/
def LayD (n : Nat) (d : PyData) : Prop := d.canLay0 = true ∧ d.depth ≤ n
theorem lay_all {n : Nat} : ∀ {ds : List PyData}, (∀ d ∈ ds, LayD n d) → PyData.canLayAll0 ds = true ∧ PyData.depthAll ds ≤ n
  | [], _ => ⟨by simp [PyData.canLayAll0], by simp [PyData.depthAll]⟩
  | d :: r, h => by
    obtain ⟨h1, h2⟩ := h d List.mem_cons_self
    obtain ⟨h3, h4⟩ := lay_all (ds := r) fun x hx => h x (List.mem_cons_of_mem _ hx)
    refine ⟨by simp [PyData.canLayAll0, h1, h3], ?_⟩
    simp only [PyData.depthAll]
    omega
theorem LayD.tup {n : Nat} {ds : List PyData} (h : ∀ d ∈ ds, LayD n d) : LayD (n + 1) (.tuple ds) := by
  obtain ⟨h1, h2⟩ := lay_all h
  refine ⟨by simp [PyData.canLay0, h1], ?_⟩
  simp only [PyData.depth]
  omega
theorem LayD.int {n : Nat} (i : Int) : LayD n (.int i) := ⟨by simp [PyData.canLay0], by simp [PyData.depth]⟩
theorem LayD.shaped {n : Nat} {d : PyData} (h : LayD n d) (hn : n ≤ 64) : SeqAt.shaped d = true := by
  show (d.canLay0 && decide (d.depth ≤ 64)) = true
  rw [Bool.and_eq_true]
  exact ⟨h.1, decide_eq_true (Nat.le_trans h.2 hn)⟩
theorem LayD.refl {n : Nat} {d : PyData} (h : LayD n d) : PyData.eqv d d = true := SeqAt.eqv_refl d h.1
def dN (n : Nat) : PyData := .int (n : Int)
def dNs (l : List Nat) : PyData := .tuple (l.map dN)
def dNss (ls : List (List Nat)) : PyData := .tuple (ls.map dNs)
def dEnt (d : Ent) : PyData := .tuple [dNs d.1, dN d.2.1, dNs (sortN d.2.2)]
def dEnts (ds : List Ent) : PyData := .tuple (ds.map dEnt)
theorem lay_ns (l : List Nat) : LayD 1 (dNs l) := LayD.tup fun d hd => by
  obtain ⟨n, _, rfl⟩ := List.mem_map.mp hd
  exact .int _
theorem LayD.le {n m : Nat} {d : PyData} (h : LayD n d) (k : n ≤ m) : LayD m d := ⟨h.1, Nat.le_trans h.2 k⟩
theorem lay_nss (ls : List (List Nat)) : LayD 2 (dNss ls) := LayD.tup fun d hd => by
  obtain ⟨n, _, rfl⟩ := List.mem_map.mp hd
  exact lay_ns n
theorem lay_ent (e : Ent) : LayD 2 (dEnt e) := LayD.tup fun d hd => by
  rcases List.mem_cons.mp hd with rfl | hd
  · exact lay_ns _
  · rcases List.mem_cons.mp hd with rfl | hd
    · exact .int _
    · rw [List.mem_singleton.mp hd]
      exact lay_ns _
theorem lay_ents (es : List Ent) : LayD 3 (dEnts es) := LayD.tup fun d hd => by
  obtain ⟨n, _, rfl⟩ := List.mem_map.mp hd
  exact lay_ent n
theorem dp_nats {K : PySem.W.Frag} {H : Hp} : ∀ (l : List Nat), DpAll K H (l.map natV) (l.map dN)
  | [] => .nil
  | n :: r => .cons (.int _) (dp_nats r)
theorem dp_ns {K : PySem.W.Frag} {H : Hp} {t : Addr} {l : List Nat} (h : H t = some (.tup (l.map natV))) : Dp K H (.ref t) (dNs l) := .tup (SqT.of h) (dp_nats l)
theorem dp_tups {K : PySem.W.Frag} {H : Hp} : ∀ {vs : List V} {ls : List (List Nat)}, TupsAt H vs ls → DpAll K H vs (ls.map dNs)
  | [], [], _ => .nil
  | _ :: _, _ :: _, .cons ⟨t, e, h⟩ r => by
    rw [e]
    exact .cons (dp_ns h) (dp_tups r)
theorem dp_ents {K : PySem.W.Frag} {H : Hp} : ∀ {vs : List V} {ds : List Ent}, EntsAt H vs ds → DpAll K H vs (ds.map dEnt)
  | [], [], _ => .nil
  | _ :: _, _ :: _, .cons ⟨t, e, tb, tm, h1, h2, h3⟩ r => by
    rw [e]
    exact .cons (.tup (SqT.of h1) (.cons (dp_ns h2) (.cons (.int _) (.cons (dp_ns h3) .nil)))) (dp_ents r)
/-- what isinstance asks of a class of one's own -/
structure IsiC (K : PySem.W.Frag) (C : Addr) : Prop where
  cla : PySem.W.findIn K (.ref C) "__class__" = some (some (.builtin "object.__class__"))
  get : PySem.W.specialIn K (.builtin "object.__class__") "__get__" = some (some (.builtin "getset_descriptor.__get__"))
  takes : PySem.W.takesIn K (.builtin "object.__class__") = some true
  obj : PySem.W.mroIn K C (.type "object") = some true
theorem kit_self {K : PySem.W.Frag} {C : Addr} : PySem.W.kitOne K (.ref C) (.ref C) = some true := by
  unfold PySem.W.kitOne
  rw [if_pos (beq_iff_eq.mpr rfl)]
/-- t + u of tuples, kept as it is said -/
structure rCatQ (K : PySem.W.Frag) (x y : V) (H : Hp) (Q : VK) : Prop where
  h : rCatA K x y H Q
theorem op_catQ {X : Cx} : OpR X (binaryOp .Add) (rCatQ X.K) := fun pins s σ H x y v u Q I rx ry h => op_catA pins s σ H x y v u Q I rx ry h.h
/-- t + u of tuples, whatever of them is empty -/
theorem cat_q {K : PySem.W.Frag} {H0 H : Hp} {a b : Addr} {xs ys : List V} {Q : VK} (ha : H0 a = some (.tup xs)) (hb : H b = some (.tup ys)) (hl : xs.length + ys.length ≤ sizeLine) (s : Same H0 H) (q : ∀ t H', Same H0 H' → H' t = some (.tup (xs ++ ys)) → Q (.ref t) H') : rCatQ K (.ref a) (.ref b) H Q := by
  refine ⟨a, b, xs, ys, rfl, rfl, SqT.of (s _ _ ha), SqT.of hb, hl, fun e => ?_, fun _ e => ?_, fun _ _ p hp => q p _ (s.trans (same_new hp)) upd_same⟩
  · exact q b H s (by rw [hb, e]; rfl)
  · exact q a H s (by rw [s _ _ ha, e, List.append_nil])
section
variable {P : Program} {w : World} {K : PySem.W.Frag} {mg : Str → Option Value} {base : Heap} {f fS fW fN fC fL fI fU fH fA fK C Cn Cc Cl Cnl : Addr} {fd fdS fdW fdN fdC fdL fdI fdU fdH fdA fdK : FuncData}
/-! ### World.__eq__ -/
def REq (C : Addr) : Addr → Addr → Hp → Prop := fun a b H => ∃ ds, WorldAt H a C ds ∧ WorldAt H b C ds
theorem sc_worldEq : FnScope ["self", "other"] ["self", "other"] (defScope (inClass (top 39) 8)) := ⟨rfl, rfl, rfl, by decide +kernel, rfl, by decide +kernel, by decide +kernel⟩
theorem ok_worldEq (F : FnM K "__eq__" "World.__eq__" (inClass (top 39) 8) f fd) (B : Fr mg) (TC : ClsWorld K mg C) (TI : IsiC K C) (mC : mg "World" = some (.ref C)) : FnOk P w K mg base CX0 1 f fd ["self", "other"] (spEq (REq C)) ∧ Binds K fd ["self", "other"] [] := by
  refine ⟨F.ok sc_worldEq (fun vs H Q E h => ?_) (fun cdv A outer s H vs Q E hr h => ?_), F.bindsN fun _ _ _ _ _ _ us hl => match us, hl with | [_, _], _ => rfl⟩
  · obtain ⟨a, b, rfl, _⟩ := h
    rfl
  · obtain ⟨a, b, rfl, ⟨ds, ha, hb⟩, k⟩ := h
    obtain ⟨dx, ac, _, _, _, _, _, cs, _, _, _, _, h1, h2, h3, _⟩ := ha
    obtain ⟨dy, bc, _, _, _, _, _, cs', _, _, _, _, g1, g2, g3, _⟩ := hb
    refine ⟨_, PSs.nox (pss_one (ps_ret (pe_and (pe_callB call_isi (by rfl) B.isinstance PyProof.Rows.boot_isinstance (pa_cons (pv 1) (pa_cons (pe_glob (v := .ref C) (by rfl) mC rfl) pa_nil)))
      (pe_one (pe_cmpR (op_eqD hr.units) (pe_fld (pv 0) rfl) (pe_fld (pv 1) rfl) (nomark _)))))), ?_⟩
    refine ⟨_, rfl, .ref b, .ref C, .ref C, .ref C, true, rfl, .own C, .base (.ins g1 TC.cl TI.cla TI.get TI.takes TI.obj), kit_self, _, rfl, iteT' rfl ?_⟩
    refine ⟨_, rfl, a, C, dx, _, _, rfl, h1, TC.cl, TC.no _ (List.mem_of_getElem? (i := 0) rfl), rfl, _, rfl, b, C, dy, _, _, rfl, g1, TC.cl, TC.no _ (List.mem_of_getElem? (i := 0) rfl), rfl, dEnts ds, dEnts ds, .tup (SqT.of h2) (dp_ents h3), .tup (SqT.of g2) (dp_ents g3), (lay_ents ds).shaped (by decide), (lay_ents ds).shaped (by decide), ?_⟩
    rw [(lay_ents ds).refl]
    exact k H Ext.rfl'
/-! ### hue_fault -/
theorem worldEld {H : Hp} {p C : Addr} {ds : List Ent} (h : WorldAt H p C ds) {x : Nat} (hx : x < ds.length) : ∃ (dx : Addr) (fs : List (Str × V)) (ae : Addr) (es : List V) (t : Addr), H p = some (.ins C dx fs) ∧ List.lookup ("elders" : Str) fs = some (V.ref ae) ∧ H ae = some (.tup es) ∧ es[x]? = some (.ref t) ∧ H t = some (.tup (((elsOf ds).getD x []).map natV)) := h.elder hx
def spHueFault (C Cc : Addr) : Sp := fun vs H Q _ => ∃ (p a : Addr) (ds : List Ent) (hs : List (Option Nat)), vs = [.ref p, .ref a] ∧ WorldAt H p C ds ∧ validB (ds.map (·.1)) ∧ SeqAt H a (hs.map hV) ∧ hs.length = ds.length ∧ hs.length ≤ 12 ∧ (∀ o ∈ hs, ∀ h, o = some h → h < 8) ∧
  ∀ v H' o, Same H H' → FirstC (kins (elsOf ds)) hs o → OptClash H' Cc v o → Q v H'
theorem sc_hueFault : FnScope ["world", "hues", "row", "c", "clash"] ["world", "hues"] (defScope (top 26)) := ⟨rfl, rfl, rfl, by decide +kernel, rfl, by decide +kernel, by decide +kernel⟩
theorem ok_hueFault (F : FnP K "hue_fault" 26 f fd) (B : Fr mg) (TC : ClsWorld K mg C) (z7 : ∃ t, mg "MOST_HUE" = some (.int 7 t)) (FL : FnP K "on_line" 17 fL fdL) (mL : mg "on_line" = some (.ref fL)) (FC : FnP K "check_class" 15 fC fdC) (mC : mg "check_class" = some (.ref fC)) (FW : FnDf K "is_whole" 12 [.non, .non] fW fdW) (mW : mg "is_whole" = some (.ref fW)) (FN : FnM K "__init__" "NoClass.__init__" (inClass (top 5) 0) fN fdN) (TN : ErrX K mg "NoClass" ["cls"] Cn fN)
    (FI : FnM K "__init__" "Clash.__init__" (inClass (top 21) 0) fI fdI) (TI : ClsF K Cc ["cls", "first", "second"]) (MI : Mk K Cc fI) (mI : mg "Clash" = some (.ref Cc))
    (FS : FnP K "is_sequence" 11 fS fdS) (mS : mg "is_sequence" = some (.ref fS)) (FU : FnP K "is_hue" 24 fU fdU) (mU : mg "is_hue" = some (.ref fU)) (FK : FnP K "check_hues" 25 fK fdK) (mK : mg "check_hues" = some (.ref fK)) (FA : FnP K "clash_among" 27 fA fdA) (mA : mg "clash_among" = some (.ref fA)) :
    FnOk P w K mg base (L2.CX P w) 6 f fd ["world", "hues"] (spHueFault C Cc) := by
  have GA : FnOk P w K mg base (L2.CX P w) 5 fA fdA ["world", "hues", "c", "among"] (spClashAm C Cc) := ok_clashAm FA B TC FL mL FC mC FW mW FN TN FI TI MI mI
  have bA : L2.Binds K fdA ["world", "hues", "c", "among"] [] := FA.bindsN fun _ _ _ _ _ _ us hl => match us, hl with | [_, _, _, _], _ => rfl
  have GK : FnOk P w K mg base CX0 3 fK fdK ["world", "hues"] (spCheckHues C) := ok_checkHues FK B TC z7 FW mW FS mS FU mU
  have bK : L2.Binds K fdK ["world", "hues"] [] := FK.bindsN fun _ _ _ _ _ _ us hl => match us, hl with | [_, _], _ => rfl
  refine F.ok sc_hueFault (fun vs H Q E h => ?_) (fun cdv A outer s H vs Q E hr h => ?_)
  · obtain ⟨p, a, ds, hs, rfl, _⟩ := h
    rfl
  · obtain ⟨p, a, ds, hs, rfl, hw, hv, hA, hl, h12, h8, k⟩ := h
    refine ⟨_, (pss_cons (ps_set (i := 2) sc_hueFault.nd rfl (Or.inl rfl) (pe_call GK (hr.mono (by decide)) (by rfl) mK FK.kp bK .nil pass0 (pa_cons (pv 0) (pa_cons (pv 1) pa_nil))))
      (pss_cons (ps_for (passes_of rfl) rfl (pi_range1 (by rfl) B.range (pa_cons (pe_callB call_len_seq (by rfl) B.len PySem.boot_len (pa_cons (pe_fld (pv 0) rfl) pa_nil)) pa_nil)) (pg_name (i := 3) sc_hueFault.nd rfl (Or.inl rfl))
        (pss_cons (ps_set (i := 4) sc_hueFault.nd rfl (Or.inl rfl) (pe_callS GA hr (by rfl) mA FA.kp bA (fun σ => passAt (takes_of rfl rfl rfl rfl) σ) (pa_cons (pv 0) (pa_cons (pv 2) (pa_cons (pv 3) (pa_cons (pe_op (r := rCatQ K) op_catQ (pe_ix (r := rIxT K) ix_tup (pe_fld (pv 0) rfl) (pv 3) (fun _ _ => rfl)) (pe_tup (pa_cons (pv 3) pa_nil))) pa_nil))))))
        (pss_one (ps_if (pt_cmpR op_notN (pv 4) pe_non (nomark _)) (pss_one (ps_ret (pv 4))) pss_nil))))
      (pss_one (ps_ret pe_non)))), ?_⟩
    refine ⟨_, rfl, _, rfl, p, a, ds, hs, rfl, hw, hA, hl, h12, h8, fun t H1 s1 ht => ?_⟩
    have hw1 := hw.mono s1
    obtain ⟨dx, ac, ab, ao, am, ae, ah, cs, bs, ms, es, hs', h1, h2, h3, _⟩ := hw1
    have n12 : (cs.length : Int) = (ds.length : Int) := by rw [h3.len]
    refine ⟨_, rfl, p, C, dx, _, _, rfl, h1, TC.cl, TC.no _ (List.mem_of_getElem? (i := 0) rfl), rfl, ac, cs, rfl, .inr (SqT.of h2), _, rfl, by omega, by omega, ?_⟩
    rw [h3.len]
    have kl : (kins (elsOf ds)).length = ds.length := by rw [kins_len, elsOf_len]
    refine for_range (n := ds.length) (fun i σ H' => Same H1 H' ∧ (∃ x3 x4, σ = [some (.ref p), some (.ref a), some (.ref t), x3, x4]) ∧ ∀ c' < i, Least (condL (kins (elsOf ds)) hs) ((kins (elsOf ds)).getD c' []) none)
      ⟨Same.refl _, ⟨_, _, rfl⟩, fun c' z => absurd z (Nat.not_lt_zero _)⟩ ?_ ?_
    · rintro i σ H' hi ⟨sH, ⟨x3, x4, rfl⟩, hno⟩
      have hw2 := (hw.mono s1).mono sH
      obtain ⟨dx', fs', ae', es', t', p1, p2, p3, p4, p5⟩ := worldEld hw2 hi
      have ei : (0 : Int) + (i : Int) = (i : Int) := by omega
      rw [ei]
      refine ⟨_, rfl, _, rfl, _, rfl, _, rfl, p, C, dx', _, _, rfl, p1, TC.cl, TC.no _ (List.mem_of_getElem? (i := 4) rfl), p2, _, rfl, ae', es', (i : Int), _, rfl, rfl, SqT.of p3, atI_nat p4, _, rfl, (by show 1 ≤ sizeLine; decide), fun T hT => ?_⟩
      have sT := same_new (o := .tup [natV i]) hT
      have row_eq : ((elsOf ds).getD i []).map natV ++ [natV i] = ((kins (elsOf ds)).getD i []).map natV := by
        rw [kins_els hi, List.map_append]
        rfl
      have row12 : ((elsOf ds).getD i []).length ≤ 12 := by
        obtain ⟨l, hl2⟩ : ∃ l, (elsOf ds)[i]? = some l := ⟨_, List.getElem?_eq_getElem (by rw [elsOf_len]; exact hi)⟩
        have := elders_len_row _ _ _ hl2
        rw [List.length_map] at this
        rw [List.getD_eq_getElem?_getD, hl2]
        show l.length ≤ 12
        omega
      obtain ⟨upk, lek⟩ := kin_up (ds.map (·.1)) i (by rw [List.length_map]; exact hi)
      have kk : kinOf (elders (ds.map (·.1))) i = (kins (elsOf ds)).getD i [] := (kins_getD (by rw [elders_len, List.length_map]; exact hi)).symm
      rw [kk] at upk lek
      refine cat_q p5 upd_same (by rw [List.length_map]; show _ + 1 ≤ sizeLine; have : 13 ≤ sizeLine := by decide
                                   omega) (sT) fun q H3 s3 hq => ?_
      have hq : H3 q = some (.tup (((elsOf ds).getD i []).map natV ++ [natV i])) := hq
      rw [row_eq] at hq
      have s23 : Same H' H3 := s3
      have kl12 : ((kins (elsOf ds)).getD i []).length ≤ 12 := by
        have h1 := nodup_sub_len' (ns := List.range 12) (up_nodup upk) fun x hx => List.mem_range.mpr (by have := lek x hx; omega)
        rw [List.length_range] at h1
        exact h1
      refine ⟨p, t, q, i, ds, hs, (kins (elsOf ds)).getD i [], rfl, hw2.mono s23, s23 _ _ (sH _ _ ht), hq, upk, fun x hx => ⟨by have := lek x hx; omega, by have := lek x hx; omega⟩, kl12, fun v H4 o s4 hL hO => ?_⟩
      have s14 : Same H1 H4 := (sH.trans s23).trans s4
      have s04 : Same H H4 := s1.trans s14
      refine ⟨_, rfl, rfl, _, rfl, ?_⟩
      rcases hO with ⟨eo, rfl⟩ | ⟨l, cp, eo, rfl, hcl⟩
      · obtain rfl : o = none := by
          cases o with
          | none => rfl
          | some l => cases eo
        refine iteF' rfl ⟨s14, ⟨_, _, rfl⟩, fun c' hc' => ?_⟩
        by_cases z : c' = i
        · rw [z]
          exact hL
        · exact hno c' (by omega)
      · cases o with
        | none => cases eo
        | some l0 =>
          obtain rfl : i :: l0 = l := Option.some.inj eo
          rcases hL with ⟨z, _⟩ | ⟨a', b', z, hL⟩
          · cases z
          · obtain rfl := Option.some.inj z
            refine iteT' rfl ⟨_, rfl, k _ H4 (some [i, a', b']) s04 (.inr ⟨i, a', b', rfl, by rw [kl]; exact hi, hno, .inr ⟨a', b', rfl, hL⟩⟩) (.inr ⟨_, cp, rfl, rfl, hcl⟩)⟩
    · rintro σ H' ⟨sH, ⟨x3, x4, rfl⟩, hno⟩
      exact k .non H' none (s1.trans sH) (.inl ⟨rfl, fun c hc => hno c (by rw [kl] at hc; exact hc)⟩) (.inl ⟨rfl, rfl⟩)
end
end K16

set_option maxRecDepth 100000
set_option maxHeartbeats 8000000
namespace K16
open PySem PySem.Spec PyProof.Rows L2 Kw
section
variable {P : Program} {w : World} {K : PySem.W.Frag} {mg : Str → Option Value} {base : Heap} {f fS fW fN fC fL fI fU fH fA fK fX C Cn Cc Cl Cnl : Addr} {fd fdS fdW fdN fdC fdL fdI fdU fdH fdA fdK fdX : FuncData}
theorem sc_notLine : FnScope ["self", "cls", "first", "second"] ["self", "cls", "first", "second"] (defScope (inClass (top 7) 0)) := ⟨rfl, rfl, rfl, by decide +kernel, rfl, by decide +kernel, by decide +kernel⟩
theorem ok_notLine (F : FnM K "__init__" "NotLine.__init__" (inClass (top 7) 0) f fd) (T : ErrX K mg "NotLine" ["cls", "first", "second"] C f) : FnOk P w K mg base CX0 1 f fd ["self", "cls", "first", "second"] (spR C ["cls", "first", "second"]) ∧ Binds K fd ["self", "cls", "first", "second"] [] := by
  refine ⟨F.ok sc_notLine (fun vs H Q E h => ?_) (fun cdv A outer s H vs Q E hr h => ?_), F.bindsN fun _ _ _ _ _ _ us hl => match us, hl with | [_, _, _, _], _ => rfl⟩
  · obtain ⟨a, xs, rfl, hl, _⟩ := h
    exact congrArg Nat.succ hl
  · obtain ⟨a, xs, rfl, hl, ha, k⟩ := h
    match xs, hl with
    | [x1, x2, x3], _ =>
      refine ⟨_, PSs.nox (pss_cons (ps_ost (pv 0) (pv 1)) (pss_cons (ps_ost (pv 0) (pv 2)) (pss_one (ps_ost (pv 0) (pv 3))))), ?_⟩
      refine ⟨_, rfl, _, rfl, a, C, rfl, T.oex, T.no _ (List.mem_of_getElem? (i := 0) rfl), .inl ⟨ha, fun dx hd ne => ?_⟩⟩
      have A1 := @upd_same (upd H dx (exd dx [("cls", x1)])) a (exo a C (some dx))
      have D1 : upd (upd H dx (exd dx [("cls", x1)])) a (exo a C (some dx)) dx = some (exd dx [("cls", x1)]) := upB ne upd_same
      have B1 : ∀ b o, b ≠ a → H b = some o → upd (upd H dx (exd dx [("cls", x1)])) a (exo a C (some dx)) b = some o := fun b o hb e => upB hb (upB (ne_of_none e hd) e)
      generalize hG1 : upd (upd H dx (exd dx [("cls", x1)])) a (exo a C (some dx)) = G1 at A1 D1 B1 ⊢
      refine ⟨_, rfl, _, rfl, a, C, rfl, T.oex, T.no _ (List.mem_of_getElem? (i := 1) rfl), .inr ⟨dx, [("cls", x1)], A1, D1, (by show 1 ≤ 900; decide), ?_⟩⟩
      have A2 : upd G1 dx (exd dx [("first", x2), ("cls", x1)]) a = some (exo a C (some dx)) := upB ne.symm A1
      have D2 : upd G1 dx (exd dx [("first", x2), ("cls", x1)]) dx = some (exd dx [("first", x2), ("cls", x1)]) := upd_same
      have B2 : ∀ b o, b ≠ a → H b = some o → upd G1 dx (exd dx [("first", x2), ("cls", x1)]) b = some o := fun b o hb e => upB (ne_of_none e hd) (B1 b o hb e)
      generalize hG2 : upd G1 dx (exd dx [("first", x2), ("cls", x1)]) = G2 at A2 D2 B2 ⊢
      refine ⟨_, rfl, _, rfl, a, C, rfl, T.oex, T.no _ (List.mem_of_getElem? (i := 2) rfl), .inr ⟨dx, _, A2, D2, (by show 2 ≤ 900; decide), ?_⟩⟩
      exact k dx _ hd ne (upB ne.symm A2) upd_same fun b o hb e => upB (ne_of_none e hd) (B2 b o hb e)
/-! ### Ladders -/
def spLadders (C Cl Cnl : Addr) : Sp := fun vs H Q E => ∃ (q dq p a : Addr) (ds : List Ent) (hs : List (Option Nat)), vs = [.ref q, .ref p, .ref a] ∧ H q = some (.ins Cl dq []) ∧ q ≠ p ∧ q ≠ a ∧ WorldAt H p C ds ∧ validB (ds.map (·.1)) ∧ SeqAt H a (hs.map hV) ∧ hs.length = ds.length ∧ hs.length ≤ 12 ∧ (∀ o ∈ hs, ∀ h, o = some h → h < 8) ∧
  (FirstC (kins (elsOf ds)) hs none → ∀ t H', Oth q H H' → H' q = some (.ins Cl dq [("world", .ref p), ("hues", .ref t)]) → H' t = some (.tup (hs.map hV)) → Q .non H') ∧
  ∀ c x y, FirstC (kins (elsOf ds)) hs (some [c, x, y]) → ∀ d H', Same H H' → H' d = some (.xd (errF ["cls", "first", "second"] [natV c, natV x, natV y])) → E (.ref Cnl) (some d) H'
theorem sc_ladders : FnScope ["self", "world", "hues", "fault"] ["self", "world", "hues"] (defScope (inClass (top 23) 0)) := ⟨rfl, rfl, rfl, by decide +kernel, rfl, by decide +kernel, by decide +kernel⟩
theorem ok_ladders (F : FnM K "__init__" "Ladders.__init__" (inClass (top 23) 0) f fd) (TL : ClsF K Cl ["world", "hues"]) (FX : FnM K "__init__" "NotLine.__init__" (inClass (top 7) 0) fX fdX) (TX : ErrX K mg "NotLine" ["cls", "first", "second"] Cnl fX) (B : Fr mg) (TI : ClsF K Cc ["cls", "first", "second"]) (FH : FnP K "hue_fault" 26 fH fdH) (mH : mg "hue_fault" = some (.ref fH))
    (GH : FnOk P w K mg base (L2.CX P w) 6 fH fdH ["world", "hues"] (spHueFault C Cc)) :
    FnOk P w K mg base (L2.CX P w) 7 f fd ["self", "world", "hues"] (spLadders C Cl Cnl) := by
  have bH : L2.Binds K fdH ["world", "hues"] [] := FH.bindsN fun _ _ _ _ _ _ us hl => match us, hl with | [_, _], _ => rfl
  obtain ⟨GX, bX⟩ : FnOk P w K mg base CX0 1 fX fdX ["self", "cls", "first", "second"] (spR Cnl ["cls", "first", "second"]) ∧ Binds K fdX ["self", "cls", "first", "second"] [] := ok_notLine FX TX
  refine F.ok sc_ladders (fun vs H Q E h => ?_) (fun cdv A outer s H vs Q E hr h => ?_)
  · obtain ⟨q, dq, p, a, ds, hs, rfl, _⟩ := h
    rfl
  · obtain ⟨q, dq, p, a, ds, hs, rfl, hq, qp, qa, hw, hv, hA, hl, h12, h8, k1, k2⟩ := h
    refine ⟨_, (pss_cons (ps_set (i := 3) sc_ladders.nd rfl (Or.inl rfl) (pe_callS GH hr (by rfl) mH FH.kp bH (fun σ => passAt (takes_of rfl rfl rfl rfl) σ) (pa_cons (pv 1) (pa_cons (pv 2) pa_nil))))
      (pss_cons (ps_if (pt_cmpR op_notN (pv 3) pe_non (nomark _)) (pss_one (ps_raise rfl (takes_of rfl rfl rfl rfl) (pmk_oex TX.oex TX.ini TX.inT GX (hr.mono (by decide)) bX .nil pass0 (by rfl) TX.mg (pa_cons (pe_fld (pv 3) rfl) (pa_cons (pe_fld (pv 3) rfl) (pa_cons (pe_fld (pv 3) rfl) pa_nil)))))) pss_nil)
      (pss_cons (ps_fld (pv 0) (pv 1) rfl) (pss_one (ps_fld (pv 0) (pe_callTy (T := "tuple") (r := rTupOf K) (call_tup (X := _)) (by rfl) B.tuple (by decide +kernel) (pa_cons (pv 2) pa_nil)) rfl))))), ?_⟩
    refine ⟨_, rfl, _, rfl, p, a, ds, hs, rfl, hw, hv, hA, hl, h12, h8, fun v H1 o s1 hC hO => ?_⟩
    refine ⟨_, rfl, rfl, _, rfl, ?_⟩
    rcases hO with ⟨rfl, rfl⟩ | ⟨l, cp, rfl, rfl, dx, c, x, y, rfl, hcl⟩
    · refine iteF' rfl ⟨_, rfl, _, rfl, q, Cl, dq, [], rfl, s1 _ _ hq, TL.cl, TL.no _ (List.mem_of_getElem? (i := 0) rfl), by simp, ?_⟩
      have O1 : Oth q H (upd H1 q (.ins Cl dq (putF "world" (.ref p) []))) := Oth.upd (Oth.of s1)
      have hA1 : SeqAt (upd H1 q (.ins Cl dq (putF "world" (.ref p) []))) a (hs.map hV) := by
        rcases hA.same s1 with z | z
        · exact .inl (upB (Ne.symm qa) z)
        · exact .inr (upB (Ne.symm qa) z)
      have Q1 : upd H1 q (.ins Cl dq (putF "world" (.ref p) [])) q = some (.ins Cl dq [("world", .ref p)]) := upd_same
      generalize upd H1 q (.ins Cl dq (putF "world" (.ref p) [])) = G at O1 hA1 Q1 ⊢
      refine ⟨_, rfl, ?_⟩
      refine tup_q hA1 fun t H3 s3 ht => ⟨_, rfl, q, Cl, dq, _, rfl, s3 _ _ Q1, TL.cl, TL.no _ (List.mem_of_getElem? (i := 1) rfl), (by show 1 < _; decide), ?_⟩
      have tq : t ≠ q := fun z => by
        have := s3 _ _ Q1
        rw [← z, ht] at this
        cases this
      exact k1 hC t _ (Oth.upd (O1.trans (Oth.of s3))) upd_same (upB tq ht)
    · refine iteT' rfl ⟨_, rfl, cp, Cc, dx, _, _, rfl, hcl, TI.cl, TI.no _ (List.mem_of_getElem? (i := 0) rfl), rfl, _, rfl, cp, Cc, dx, _, _, rfl, hcl, TI.cl, TI.no _ (List.mem_of_getElem? (i := 1) rfl), rfl, _, rfl, cp, Cc, dx, _, _, rfl, hcl, TI.cl, TI.no _ (List.mem_of_getElem? (i := 2) rfl), rfl, ?_⟩
      exact raise_q rfl (by decide) fun d H' s2 _ e => k2 c x y hC d H' (s1.trans s2) e
end
end K16

set_option maxRecDepth 100000
set_option maxHeartbeats 8000000
namespace K16
open PySem PySem.Spec PyProof.Rows L2 Kw
section
variable {P : Program} {w : World} {K : PySem.W.Frag} {mg : Str → Option Value} {base : Heap} {f fP fD : Addr} {fd fdP fdD : FuncData}
theorem ListsAt.sameAll {H H' : Hp} (s : Same H H') : ∀ {vs : List V} {ls : List (List Nat)}, ListsAt H vs ls → ListsAt H' vs ls
  | [], [], _ => .nil
  | _ :: _, _ :: _, .cons ⟨t, e, h⟩ r => .cons ⟨t, e, s _ _ h⟩ (ListsAt.sameAll s r)
def rLenS (K : PySem.W.Frag) : List V → Hp → VK → Prop := fun xs H Q => ∃ p ys, xs = [.ref p] ∧ (SqL K H p ys ∨ SqT K H p ys) ∧ Q (.int ys.length) H
theorem call_lenS {X : Cx} : CallR X (.builtin "len") (rLenS X.K) := call_len_seq
/-- rows of kin as lists, hues as a list -/
def KinH (H : Hp) (ak ah : Addr) (us : List V) (ks : List (List Nat)) (hs : List (Option Nat)) : Prop := H ak = some (.lst us) ∧ ListsAt H us ks ∧ H ah = some (.lst (hs.map hV)) ∧ hs.length = ks.length ∧ ks.length ≤ 12 ∧ KinsOk ks
theorem KinH.same {H H' : Hp} {ak ah : Addr} {us : List V} {ks : List (List Nat)} {hs : List (Option Nat)} (h : KinH H ak ah us ks hs) (s : Same H H') : KinH H' ak ah us ks hs := by
  obtain ⟨h1, h2, h3, h4⟩ := h
  exact ⟨s _ _ h1, ListsAt.sameAll s h2, s _ _ h3, h4⟩
/-! ### depths -/
def depthsOf (ks : List (List Nat)) (hs : List (Option Nat)) : List Int := (List.range ks.length).map (depthI ks hs)
def spDepths : Sp := fun vs H Q _ => ∃ (ak ah : Addr) (us : List V) (ks : List (List Nat)) (hs : List (Option Nat)), vs = [.ref ak, .ref ah] ∧ KinH H ak ah us ks hs ∧ ∀ l H', Same H H' → H' l = some (.lst ((depthsOf ks hs).map V.int)) → Q (.ref l) H'
theorem sc_depths : FnScope ["_law_kin_here", "_law_hues", "_law_one", "_law_c"] ["_law_kin_here", "_law_hues"] (defScope (top 58)) := ⟨rfl, rfl, rfl, by decide +kernel, rfl, by decide +kernel, by decide +kernel⟩
theorem ok_depths (F : FnP K "_law_depths" 58 f fd) (B : Fr mg) : FnOk P w K mg base CX0 1 f fd ["_law_kin_here", "_law_hues"] spDepths := by
  refine F.ok sc_depths (fun vs H Q E h => ?_) (fun cdv A outer s H vs Q E hr h => ?_)
  · obtain ⟨ak, ah, us, ks, hs, rfl, _⟩ := h
    rfl
  · obtain ⟨ak, ah, us, ks, hs, rfl, hk, k⟩ := h
    have hk0 := hk
    obtain ⟨h1, h2, h3, hl, h12, ok⟩ := hk
    refine ⟨_, PSs.nox (pss_one (ps_ret (pe_lc (own := [("_law_c", 3)]) (g := gName 3) (tt := tYes) rfl sc_depths.nd (pi_range1 (by rfl) B.range (pa_cons (pe_callB call_len_seq (by rfl) B.len PySem.boot_len (pa_cons (pv 0) pa_nil)) pa_nil)) (blkOk_by (N := ["_law_kin_here", "_law_hues", "_law_one", "_law_c"]) (sc := defScope (top 58)) (by decide +kernel))
          (fun _ _ _ _ _ => pg_name (i := 3) sc_depths.nd rfl (Or.inr rfl)) (fun _ _ _ _ _ => pts_nil)
          (te := tSub (tCB (rLenS K) (tCons (tLc (iList K (tOp (rIxL K) (tVar 0) (tVar 3))) (gName 2) (tTest (tOp rEq (tOp (rIxL K) (tVar 1) (tVar 2)) (tOp (rIxL K) (tVar 1) (tVar 3)))) (tVar 2) [2]) tNil)) (tC (.int 1)))
          (fun _ _ _ _ _ => ?he)))), ?_⟩
    case he =>
      refine pe_sub (pe_callB (id := "len") (r := rLenS K) (call_lenS (X := _)) (by rfl) B.len PySem.boot_len (pa_cons ?_ pa_nil)) pe_int
      exact pe_lc (own := [("_law_one", 2)]) (g := gName 2) rfl sc_depths.nd (pi_list (pe_ix (r := rIxL K) (ix_list (X := _)) (pv 0) (pv 3) (fun _ _ => rfl))) (blkOk_by (by rfl))
        (fun _ _ _ _ _ => pg_name (i := 2) sc_depths.nd rfl (Or.inl rfl)) (fun _ _ _ _ _ => pts_one (pt_cmpR (r := rEq) op_eq (pe_ix (r := rIxL K) ix_list (pv 1) (pv 2) (fun _ _ => rfl)) (pe_ix (r := rIxL K) ix_list (pv 1) (pv 3) (fun _ _ => rfl)) (nomark _)))
        (fun _ _ _ _ _ => pv 2)
    have hul : us.length = ks.length := h2.len
    refine ⟨_, rfl, ak, us, rfl, .inl (SqL.of h1), _, rfl, by omega, by omega, fun D hD => lc_range (n := us.length) (fun i H2 => Same H H2 ∧ H2 D = some (.lst (((List.range i).map (depthI ks hs)).map V.int))) ⟨same_new hD, upd_same⟩ ?_ ?_⟩
    · rintro i H2 hi ⟨s2, hDu⟩
      have ei : (0 : Int) + (i : Int) = (i : Int) := by omega
      rw [ei]
      have hi' : i < ks.length := by omega
      obtain ⟨row, hrow⟩ : ∃ row, ks[i]? = some row := ⟨_, List.getElem?_eq_getElem hi'⟩
      have hgd : ks.getD i [] = row := by
        rw [List.getD_eq_getElem?_getD, hrow]
        rfl
      obtain ⟨g1, g2, g3, _⟩ := hk0.same s2
      obtain ⟨t, et, ht⟩ := g2.get hrow
      have lrow : row.length ≤ 12 := by
        have upr := ok.up i hi'
        rw [hgd] at upr
        have h1 := nodup_sub_len' (ns := List.range 12) (up_nodup upr) fun x hx => List.mem_range.mpr (by have := ok.le i hi' x (by rw [hgd]; exact hx); omega)
        rw [List.length_range] at h1
        exact h1
      refine ⟨rfl, _, rfl, _, rfl, ak, us, (i : Int), _, rfl, rfl, SqL.of g1, atI_nat et, t, rfl, ⟨_, SqL.of ht⟩, fun D2 hD2 => lc_list (K := K) (a := t) (xs := row.map natV) (fun j H3 => Same H2 H3 ∧ H3 D2 = some (.lst ((likeH hs (row.take j) i).map natV))) ⟨same_new hD2, upd_same⟩ (fun j H3 _ h => SqL.of (h.1 _ _ ht)) ?_ ?_⟩
      · rintro j y H3 hj ⟨s3, hD3⟩
        rw [List.getElem?_map] at hj
        obtain ⟨x, hx, rfl⟩ := Option.map_eq_some_iff.mp hj
        have xl : x < hs.length := by
          have := ok.le i hi' x (by rw [hgd]; exact List.mem_of_getElem? hx)
          omega
        have g3' := s3 _ _ g3
        refine ⟨rfl, _, rfl, _, rfl, ah, _, _, _, rfl, rfl, SqL.of g3', atI_nat (hue_at xl), _, rfl, _, rfl, ah, _, _, _, rfl, rfl, SqL.of g3', atI_nat (hue_at (by omega)), hV_scal _ _, _, rfl, ?_⟩
        rw [hV_eq]
        have hm : likeH hs (row.take (j + 1)) i = likeH hs (row.take j) i ++ (if (hueOf hs x == hueOf hs i) = true then [x] else []) := by
          unfold likeH
          rw [List.take_add_one, hx, Option.toList_some, List.filter_append]
          congr 1
          cases e : (hueOf hs x == hueOf hs i) with
          | true => rw [List.filter_cons_of_pos (by exact e)]; rfl
          | false => rw [List.filter_cons_of_neg (by rw [e]; decide)]; rfl
        cases c3 : (hueOf hs x == hueOf hs i) with
        | true =>
          rw [c3, if_pos rfl] at hm
          refine iteT' rfl ⟨_, rfl, _, hD3, ?_, same_upd s3 hD2, ?_⟩
          · rw [List.length_map]
            refine Nat.lt_of_le_of_lt (List.length_filter_le _ _) ?_
            rw [List.length_take]
            show _ < 2 ^ 24
            omega
          · rw [hm, List.map_append, upd_same]
            rfl
        | false =>
          rw [c3, if_neg (by decide), List.append_nil] at hm
          exact iteF' rfl ⟨s3, by rw [hm]; exact hD3⟩
      · rintro H3 ⟨s3, hD3⟩
        rw [List.length_map, List.take_length] at hD3
        refine ⟨D2, _, rfl, .inl (SqL.of hD3), _, _, rfl, rfl, _, s3 _ _ hDu, ?_, same_upd (s2.trans s3) hD, ?_⟩
        · rw [List.length_map, List.length_map, List.length_range]
          show i < 2 ^ 24
          omega
        · rw [upd_same, List.range_succ, List.map_append, List.map_append]
          congr 3
          show [V.int _] = [V.int (depthI ks hs i)]
          unfold depthI
          rw [hgd, List.length_map]
    · rintro H2 ⟨s2, hDu⟩
      refine k D H2 s2 ?_
      unfold depthsOf
      rw [← hul]
      exact hDu
end
end K16

set_option maxRecDepth 100000
set_option maxHeartbeats 8000000
namespace K16
/-! ### hues gone through, lots gone through: the mathematics -/
/-- which list stands first -/
def lx : List Nat → List Nat → Bool
  | [], [] => false
  | [], _ :: _ => true
  | _ :: _, [] => false
  | a :: as, b :: bs => decide (a < b) || (decide (a = b) && lx as bs)
theorem lx_cons {a b : Nat} {as bs : List Nat} : lx (a :: as) (b :: bs) = true ↔ a < b ∨ (a = b ∧ lx as bs = true) := by
  simp [lx]
theorem lx_refl : ∀ l, lx l l = false
  | [] => rfl
  | a :: as => by
    simp [lx, lx_refl as]
theorem lx_anti : ∀ {l m : List Nat}, lx l m = false → lx m l = false → l = m
  | [], [], _, _ => rfl
  | [], _ :: _, h, _ => by simp [lx] at h
  | _ :: _, [], _, h => by simp [lx] at h
  | a :: as, b :: bs, h1, h2 => by
    have e1 : (a < b ∨ (a = b ∧ lx as bs = true)) → False := fun z => by
      have := lx_cons.mpr z
      rw [h1] at this
      cases this
    have e2 : (b < a ∨ (b = a ∧ lx bs as = true)) → False := fun z => by
      have := lx_cons.mpr z
      rw [h2] at this
      cases this
    have : a = b := by
      apply Classical.byContradiction
      intro q
      rcases Nat.lt_or_gt_of_ne q with z | z
      · exact e1 (.inl z)
      · exact e2 (.inl z)
    subst this
    have t1 : lx as bs = false := by
      cases c : lx as bs with
      | false => rfl
      | true => exact (e1 (.inr ⟨rfl, c⟩)).elim
    have t2 : lx bs as = false := by
      cases c : lx bs as with
      | false => rfl
      | true => exact (e2 (.inr ⟨rfl, c⟩)).elim
    rw [lx_anti t1 t2]
theorem lx_trans : ∀ {l m k : List Nat}, lx l m = true → lx m k = true → lx l k = true
  | [], [], _, h, _ => by simp [lx] at h
  | [], _ :: _, [], _, h => by simp [lx] at h
  | [], _ :: _, _ :: _, _, _ => rfl
  | _ :: _, [], _, h, _ => by simp [lx] at h
  | _ :: _, _ :: _, [], _, h => by simp [lx] at h
  | a :: as, b :: bs, c :: cs, h1, h2 => by
    rw [lx_cons] at *
    rcases h1 with h1 | ⟨rfl, h1⟩
    · rcases h2 with h2 | ⟨rfl, h2⟩
      · exact .inl (by omega)
      · exact .inl h1
    · rcases h2 with h2 | ⟨rfl, h2⟩
      · exact .inl h2
      · exact .inr ⟨rfl, lx_trans h1 h2⟩
theorem lx_pre : ∀ (p : List Nat) {a b : Nat} (as bs : List Nat), a < b → lx (p ++ a :: as) (p ++ b :: bs) = true
  | [], _, _, _, _, h => lx_cons.mpr (.inl h)
  | _ :: p, _, _, as, bs, h => lx_cons.mpr (.inr ⟨rfl, lx_pre p as bs h⟩)
theorem lx_pre_same : ∀ (p l m : List Nat), lx (p ++ l) (p ++ m) = lx l m
  | [], _, _ => rfl
  | a :: p, l, m => by
    show lx (a :: (p ++ l)) (a :: (p ++ m)) = _
    rw [← lx_pre_same p l m]
    simp [lx]
theorem lx_app : ∀ {l m : List Nat} (p q : List Nat), l.length = m.length → lx l m = true → lx (l ++ p) (m ++ q) = true
  | [], [], _, _, _, h => by simp [lx] at h
  | [], _ :: _, _, _, e, _ => by simp at e
  | _ :: _, [], _, _, e, _ => by simp at e
  | a :: as, b :: bs, p, q, e, h => by
    rw [lx_cons] at h
    show lx (a :: (as ++ p)) (b :: (bs ++ q)) = true
    rw [lx_cons]
    rcases h with h | ⟨rfl, h⟩
    · exact .inl h
    · exact .inr ⟨rfl, lx_app p q (by simpa using e) h⟩
theorem getD_snoc (r : List Nat) (h i : Nat) : (r ++ [h]).getD i 0 = if i < r.length then r.getD i 0 else if i = r.length then h else 0 := by
  by_cases c : i < r.length
  · rw [if_pos c, List.getD_eq_getElem?_getD, List.getElem?_append_left c, ← List.getD_eq_getElem?_getD]
  · rw [if_neg c, List.getD_eq_getElem?_getD, List.getElem?_append_right (by omega)]
    by_cases q : i = r.length
    · rw [if_pos q, q, Nat.sub_self]
      rfl
    · rw [if_neg q, List.getElem?_eq_none (by rw [List.length_singleton]; omega)]
      rfl
/-- the hue h may follow the row -/
def okH (E : Nat → Nat → Bool) (row : List Nat) (h : Nat) : Bool := (List.range row.length).all fun a => !(E a row.length && row.getD a 0 == h)
theorem okH_iff {E : Nat → Nat → Bool} {row : List Nat} {h : Nat} : okH E row h = true ↔ ∀ a, a < row.length → E a row.length = true → row.getD a 0 ≠ h := by
  unfold okH
  rw [List.all_eq_true]
  constructor
  · intro z a ha e q
    have := z a (List.mem_range.mpr ha)
    rw [e, q] at this
    simp at this
  · intro z a ha
    have ha := List.mem_range.mp ha
    cases e : E a row.length with
    | false => rfl
    | true =>
      have := z a ha e
      simp only [List.getD_eq_getElem?_getD] at this
      simp [this]
/-- no two that are apart have one hue -/
def PrP (E : Nat → Nat → Bool) (r : List Nat) : Prop := ∀ a b, a < b → b < r.length → E a b = true → r.getD a 0 ≠ r.getD b 0
theorem prP_nil {E : Nat → Nat → Bool} : PrP E [] := fun _ _ _ h => absurd h (Nat.not_lt_zero _)
theorem prP_snoc {E : Nat → Nat → Bool} {r : List Nat} {h : Nat} : PrP E (r ++ [h]) ↔ PrP E r ∧ okH E r h = true := by
  constructor
  · intro z
    refine ⟨fun a b hab hb e => ?_, okH_iff.mpr fun a ha e => ?_⟩
    · have := z a b hab (by rw [List.length_append]; omega) e
      rw [getD_snoc, getD_snoc, if_pos (by omega), if_pos hb] at this
      exact this
    · have := z a r.length ha (by rw [List.length_append, List.length_singleton]; omega) e
      rw [getD_snoc, getD_snoc, if_pos ha, if_neg (by omega), if_pos rfl] at this
      exact this
  · rintro ⟨z, o⟩ a b hab hb e
    rw [List.length_append, List.length_singleton] at hb
    rw [getD_snoc, getD_snoc, if_pos (by omega : a < r.length)]
    by_cases q : b < r.length
    · rw [if_pos q]
      exact z a b hab q e
    · have : b = r.length := by omega
      subst this
      rw [if_neg q, if_pos rfl]
      exact okH_iff.mp o a hab e
theorem prP_pre {E : Nat → Nat → Bool} {r s : List Nat} (h : PrP E (r ++ s)) : PrP E r := fun a b hab hb e => by
  have := h a b hab (by rw [List.length_append]; omega) e
  rw [List.getD_eq_getElem?_getD, List.getD_eq_getElem?_getD, List.getElem?_append_left (by omega), List.getElem?_append_left hb] at this
  exact this
/-- the first that is some -/
def firstS {α : Type} (k : Nat) (f : Nat → Option α) : Option α := (List.range k).findSome? f
theorem firstS_succ {α : Type} {k : Nat} {f : Nat → Option α} : firstS (k + 1) f = (firstS k f).or (f k) := by
  unfold firstS
  rw [List.range_succ, List.findSome?_append]
  congr 1
  simp [List.findSome?]
  cases f k <;> rfl
theorem firstS_none {α : Type} {f : Nat → Option α} : ∀ {k : Nat}, firstS k f = none ↔ ∀ h, h < k → f h = none
  | 0 => ⟨fun _ _ h => absurd h (Nat.not_lt_zero _), fun _ => rfl⟩
  | k + 1 => by
    rw [firstS_succ, Option.or_eq_none_iff, firstS_none (k := k)]
    constructor
    · rintro ⟨h1, h2⟩ h hh
      by_cases q : h < k
      · exact h1 h q
      · rw [show h = k by omega]
        exact h2
    · intro h
      exact ⟨fun j hj => h j (by omega), h k (by omega)⟩
theorem firstS_some {α : Type} {f : Nat → Option α} {r : α} : ∀ {k : Nat}, firstS k f = some r ↔ ∃ h, h < k ∧ f h = some r ∧ ∀ j, j < h → f j = none
  | 0 => ⟨(fun h => by cases h), fun ⟨_, h, _⟩ => absurd h (Nat.not_lt_zero _)⟩
  | k + 1 => by
    rw [firstS_succ]
    constructor
    · intro h
      cases e : firstS k f with
      | some z =>
        rw [e] at h
        obtain rfl := Option.some.inj h
        obtain ⟨j, hj, h2, h3⟩ := firstS_some.mp e
        exact ⟨j, by omega, h2, h3⟩
      | none =>
        rw [e] at h
        exact ⟨k, by omega, h, fun j hj => firstS_none.mp e j hj⟩
    · rintro ⟨h, hh, h2, h3⟩
      by_cases q : h < k
      · rw [firstS_some.mpr ⟨h, q, h2, h3⟩]
        rfl
      · have : h = k := by omega
        subst this
        rw [firstS_none.mpr h3]
        exact h2
/-- the first row in order with k hues, behind a beginning -/
def frow (E : Nat → Nat → Bool) (k : Nat) : Nat → List Nat → Option (List Nat)
  | 0, row => some row
  | m + 1, row => firstS k fun h => if okH E row h = true then frow E k m (row ++ [h]) else none
def ExtR (E : Nat → Nat → Bool) (k m : Nat) (row s : List Nat) : Prop := s.length = m ∧ (∀ x ∈ s, x < k) ∧ PrP E (row ++ s)
theorem frow_spec {E : Nat → Nat → Bool} {k : Nat} : ∀ (m : Nat) (row : List Nat), PrP E row →
    (∀ r, frow E k m row = some r → ∃ s, r = row ++ s ∧ ExtR E k m row s ∧ ∀ s', ExtR E k m row s' → lx s' s = false) ∧ (frow E k m row = none → ∀ s, ¬ ExtR E k m row s)
  | 0, row, hp => by
    refine ⟨fun r h => ?_, fun h => by cases h⟩
    obtain rfl := Option.some.inj h
    refine ⟨[], (List.append_nil _).symm, ⟨rfl, fun x hx => absurd hx List.not_mem_nil, by rw [List.append_nil]; exact hp⟩, fun s' h' => ?_⟩
    rw [List.length_eq_zero_iff.mp h'.1]
    rfl
  | m + 1, row, hp => by
    have split : ∀ s, ExtR E k (m + 1) row s → ∃ h t, s = h :: t ∧ h < k ∧ okH E row h = true ∧ ExtR E k m (row ++ [h]) t := by
      rintro s ⟨h1, h2, h3⟩
      match s, h1 with
      | h :: t, h1 =>
        have e : row ++ h :: t = (row ++ [h]) ++ t := by rw [List.append_assoc]; rfl
        rw [e] at h3
        exact ⟨h, t, rfl, h2 h List.mem_cons_self, (prP_snoc.mp (prP_pre h3)).2, by simpa using h1, fun x hx => h2 x (List.mem_cons_of_mem _ hx), h3⟩
    constructor
    · intro r hr
      obtain ⟨h, hk, hf, hb⟩ := firstS_some.mp (show firstS k _ = some r from hr)
      by_cases o : okH E row h = true
      · rw [if_pos o] at hf
        have hp2 : PrP E (row ++ [h]) := prP_snoc.mpr ⟨hp, o⟩
        obtain ⟨t, e, ⟨x1, x2, x3⟩, least⟩ := (frow_spec m (row ++ [h]) hp2).1 r hf
        refine ⟨h :: t, by rw [e, List.append_assoc]; rfl, ⟨by simpa using x1, fun x hx => ?_, by rw [List.append_assoc] at x3; exact x3⟩, fun s' h' => ?_⟩
        · rcases List.mem_cons.mp hx with rfl | hx
          · exact hk
          · exact x2 x hx
        · obtain ⟨h2, t2, rfl, hk2, o2, ex2⟩ := split s' h'
          cases c : lx (h2 :: t2) (h :: t) with
          | false => rfl
          | true =>
            rcases lx_cons.mp c with c | ⟨rfl, c⟩
            · have z := hb h2 c
              rw [if_pos o2] at z
              exact ((frow_spec m (row ++ [h2]) (prP_snoc.mpr ⟨hp, o2⟩)).2 z t2 ex2).elim
            · rename_i c2
              rw [least t2 ex2] at c2
              cases c2
      · rw [if_neg o] at hf
        cases hf
    · intro hr s hs
      obtain ⟨h, t, rfl, hk, o, ex⟩ := split s hs
      have z := firstS_none.mp (show firstS k _ = none from hr) h hk
      rw [if_pos o] at z
      exact (frow_spec m (row ++ [h]) (prP_snoc.mpr ⟨hp, o⟩)).2 z t ex
/-- one more than the greatest hue -/
def topL (r : List Nat) : Nat := r.foldl (fun m x => max m (x + 1)) 0
theorem topL_snoc (r : List Nat) (x : Nat) : topL (r ++ [x]) = max (topL r) (x + 1) := by
  unfold topL
  rw [List.foldl_append]
  rfl
theorem foldl_top : ∀ (r : List Nat) (m : Nat), r.foldl (fun m x => max m (x + 1)) m = max m (topL r)
  | [], m => (Nat.max_zero m).symm
  | x :: r, m => by
    show r.foldl _ (max m (x + 1)) = max m (r.foldl _ (max 0 (x + 1)))
    rw [foldl_top r, foldl_top r]
    omega
theorem topL_cons (x : Nat) (r : List Nat) : topL (x :: r) = max (x + 1) (topL r) := by
  show r.foldl _ (max 0 (x + 1)) = _
  rw [foldl_top]
  omega
theorem topL_le {k : Nat} : ∀ {r : List Nat}, topL r ≤ k ↔ ∀ x ∈ r, x < k
  | [] => ⟨fun _ _ h => absurd h List.not_mem_nil, fun _ => Nat.zero_le _⟩
  | x :: r => by
    rw [topL_cons, List.forall_mem_cons, ← topL_le (r := r)]
    omega
theorem topL_mem {r : List Nat} {x : Nat} (h : x ∈ r) : x < topL r := topL_le.mp (Nat.le_refl _) x h
/-- each hue at most one above those before -/
def Canon (r : List Nat) : Prop := ∀ i, i < r.length → r.getD i 0 ≤ topL (r.take i)
theorem canon_snoc {r : List Nat} {h : Nat} : Canon (r ++ [h]) ↔ Canon r ∧ h ≤ topL r := by
  constructor
  · intro z
    refine ⟨fun i hi => ?_, ?_⟩
    · have := z i (by rw [List.length_append]; omega)
      rw [getD_snoc, if_pos hi, List.take_append_of_le_length (by omega)] at this
      exact this
    · have := z r.length (by rw [List.length_append, List.length_singleton]; omega)
      rw [getD_snoc, if_neg (by omega), if_pos rfl, List.take_append_of_le_length (Nat.le_refl _), List.take_length] at this
      exact this
  · rintro ⟨z, o⟩ i hi
    rw [List.length_append, List.length_singleton] at hi
    rw [getD_snoc, List.take_append_of_le_length (by omega)]
    by_cases q : i < r.length
    · rw [if_pos q]
      exact z i q
    · rw [if_neg q, if_pos (by omega), show i = r.length by omega, List.take_length]
      exact o
theorem snoc_ind {p : List Nat → Prop} (h0 : p []) (h1 : ∀ r x, p r → p (r ++ [x])) (r : List Nat) : p r := by
  have : ∀ n (r : List Nat), r.length = n → p r := by
    intro n
    induction n with
    | zero =>
      intro r h
      rw [List.length_eq_zero_iff.mp h]
      exact h0
    | succ n ih =>
      intro r h
      have ne : r ≠ [] := fun z => by rw [z] at h; cases h
      rw [← List.dropLast_concat_getLast ne]
      exact h1 _ _ (ih _ (by rw [List.length_dropLast, h]; rfl))
  exact this _ r rfl
theorem canon_top {r : List Nat} : Canon r → topL r ≤ r.length := by
  refine snoc_ind (p := fun r => Canon r → topL r ≤ r.length) (fun _ => Nat.le_refl 0) (fun r x ih h => ?_) r
  have := ih (canon_snoc.mp h).1
  have := (canon_snoc.mp h).2
  rw [topL_snoc, List.length_append, List.length_singleton]
  omega
def swp (t u x : Nat) : Nat := if x = t then u else if x = u then t else x
theorem swp_inj {t u x y : Nat} (h : swp t u x = swp t u y) : x = y := by
  unfold swp at h
  split at h <;> split at h <;> (try split at h) <;> (try split at h) <;> omega
/-- the first in order is canonical -/
theorem least_canon {E : Nat → Nat → Bool} {k : Nat} {r : List Nat} (hp : PrP E r) (hk : ∀ x ∈ r, x < k) (least : ∀ r', r'.length = r.length → PrP E r' → (∀ x ∈ r', x < k) → lx r' r = false) : Canon r := by
  intro i hi
  apply Classical.byContradiction
  intro hn
  have ei : r[i]? = some (r.getD i 0) := by
    rw [List.getD_eq_getElem?_getD, List.getElem?_eq_getElem hi]
    rfl
  generalize hu : r.getD i 0 = u at hn ei
  generalize ht : topL (r.take i) = t at hn
  have huk : u < k := hk u (List.mem_of_getElem? ei)
  have hl : (r.map (swp t u)).length = r.length := List.length_map _
  have gd : ∀ a, a < r.length → (r.map (swp t u)).getD a 0 = swp t u (r.getD a 0) := fun a ha => by
    rw [List.getD_eq_getElem?_getD, List.getElem?_map, List.getD_eq_getElem?_getD, List.getElem?_eq_getElem ha]
    rfl
  have z := least (r.map (swp t u)) hl (fun a b hab hb e q => by
    rw [hl] at hb
    rw [gd a (by omega), gd b hb] at q
    exact hp a b hab hb e (swp_inj q)) (fun x hx => by
    obtain ⟨y, hy, rfl⟩ := List.mem_map.mp hx
    have := hk y hy
    unfold swp
    split
    · exact huk
    · split
      · omega
      · exact this)
  have e0 : r = r.take i ++ u :: r.drop (i + 1) := by
    conv => lhs; rw [← List.take_append_drop i r]
    rw [List.drop_eq_getElem_cons hi]
    have : r[i] = u := by
      rw [List.getElem?_eq_getElem hi] at ei
      exact Option.some.inj ei
    rw [this]
  have e1 : r.map (swp t u) = r.take i ++ t :: (r.drop (i + 1)).map (swp t u) := by
    conv => lhs; rw [e0]
    rw [List.map_append, List.map_cons]
    congr 1
    · conv => rhs; rw [← List.map_id (r.take i)]
      refine List.map_congr_left fun x hx => ?_
      have := topL_mem hx
      rw [ht] at this
      unfold swp
      rw [if_neg (by omega), if_neg (by omega)]
      rfl
    · congr 1
      unfold swp
      rw [if_neg (by omega), if_pos rfl]
  rw [e1] at z
  have e2 := lx_pre (r.take i) (a := t) (b := u) ((r.drop (i + 1)).map (swp t u)) (r.drop (i + 1)) (by omega)
  rw [← e0, z] at e2
  cases e2
/-- the law's rows -/
def lrows (E : Nat → Nat → Bool) : Nat → List (List Nat)
  | 0 => [[]]
  | c + 1 => (lrows E c).flatMap fun row => ((List.range (topL row + 1)).filter fun h => okH E row h).map fun h => row ++ [h]
theorem mem_lrows {E : Nat → Nat → Bool} : ∀ {c : Nat} {r : List Nat}, r ∈ lrows E c ↔ r.length = c ∧ PrP E r ∧ Canon r
  | 0, r => by
    show r ∈ [[]] ↔ _
    rw [List.mem_singleton]
    constructor
    · rintro rfl
      exact ⟨rfl, prP_nil, fun i hi => absurd hi (Nat.not_lt_zero _)⟩
    · rintro ⟨h, _⟩
      exact List.length_eq_zero_iff.mp h
  | c + 1, r => by
    show r ∈ (lrows E c).flatMap _ ↔ _
    rw [List.mem_flatMap]
    constructor
    · rintro ⟨row, h1, h2⟩
      obtain ⟨h, h3, rfl⟩ := List.mem_map.mp h2
      rw [List.mem_filter, List.mem_range] at h3
      obtain ⟨a, b, d⟩ := mem_lrows.mp h1
      exact ⟨by rw [List.length_append, a]; rfl, prP_snoc.mpr ⟨b, h3.2⟩, canon_snoc.mpr ⟨d, by omega⟩⟩
    · rintro ⟨a, b, d⟩
      have ne : r ≠ [] := fun z => by rw [z] at a; cases a
      have e := List.dropLast_concat_getLast ne
      generalize hl : r.getLast ne = x at e
      have len : r.dropLast.length = c := by rw [List.length_dropLast, a]; rfl
      generalize r.dropLast = p at e len
      subst e
      obtain ⟨b1, b2⟩ := prP_snoc.mp b
      obtain ⟨d1, d2⟩ := canon_snoc.mp d
      exact ⟨p, mem_lrows.mpr ⟨len, b1, d1⟩, List.mem_map.mpr ⟨x, List.mem_filter.mpr ⟨List.mem_range.mpr (by omega), b2⟩, rfl⟩⟩
def fct : Nat → Nat
  | 0 => 1
  | n + 1 => fct n * (n + 1)
theorem len_flat {α β : Type} {f : α → List β} {k : Nat} : ∀ {l : List α}, (∀ x ∈ l, (f x).length ≤ k) → (l.flatMap f).length ≤ l.length * k
  | [], _ => by simp
  | x :: l, h => by
    rw [List.flatMap_cons, List.length_append, List.length_cons, Nat.succ_mul]
    have := h x List.mem_cons_self
    have := len_flat (l := l) fun y hy => h y (List.mem_cons_of_mem _ hy)
    omega
theorem lrows_len {E : Nat → Nat → Bool} : ∀ c, (lrows E c).length ≤ fct c
  | 0 => Nat.le_refl 1
  | c + 1 => by
    have z : (lrows E (c + 1)).length ≤ (lrows E c).length * (c + 1) := len_flat fun row hr => by
      obtain ⟨a, _, d⟩ := mem_lrows.mp hr
      have := canon_top d
      rw [List.length_map]
      refine Nat.le_trans (List.length_filter_le _ _) ?_
      rw [List.length_range]
      omega
    exact Nat.le_trans z (Nat.mul_le_mul_right _ (lrows_len c))
theorem lrows_ne {E : Nat → Nat → Bool} : ∀ c, lrows E c ≠ []
  | 0 => by simp [lrows]
  | c + 1 => by
    obtain ⟨r, hr⟩ := List.exists_mem_of_ne_nil _ (lrows_ne (E := E) c)
    obtain ⟨a, b, d⟩ := mem_lrows.mp hr
    refine List.ne_nil_of_mem (a := r ++ [topL r]) (mem_lrows.mpr ⟨by rw [List.length_append, a]; rfl, prP_snoc.mpr ⟨b, okH_iff.mpr fun i hi _ => ?_⟩, canon_snoc.mpr ⟨d, Nat.le_refl _⟩⟩)
    have : r.getD i 0 ∈ r := by
      rw [List.getD_eq_getElem?_getD, List.getElem?_eq_getElem hi]
      exact List.getElem_mem hi
    have := topL_mem this
    omega
/-- the row that both find -/
structure FewH (E : Nat → Nat → Bool) (n L : Nat) (r : List Nat) : Prop where
  mem : r ∈ lrows E n
  top : topL r = L + 1
  few : ∀ s ∈ lrows E n, L + 1 ≤ topL s
  fst : ∀ s ∈ lrows E n, topL s = L + 1 → lx s r = false
theorem FewH.no {E : Nat → Nat → Bool} {n L : Nat} {r : List Nat} (h : FewH E n L r) {s : List Nat} (hl : s.length = n) (hp : PrP E s) (hk : ∀ x ∈ s, x < L) : False := by
  cases e : frow E L n [] with
  | none => exact (frow_spec n [] prP_nil).2 e s ⟨hl, hk, hp⟩
  | some z =>
    obtain ⟨t, rfl, ⟨a, b, d⟩, least⟩ := (frow_spec n [] prP_nil).1 z e
    have c := least_canon (E := E) (k := L) d b fun r' q1 q2 q3 => least r' ⟨by rw [q1]; exact a, q3, q2⟩
    have := h.few _ (mem_lrows.mpr ⟨a, d, c⟩)
    have := topL_le.mpr b
    simp only [List.nil_append] at *
    omega
theorem FewH.low {E : Nat → Nat → Bool} {n L : Nat} {r : List Nat} (h : FewH E n L r) {k : Nat} (hk : k ≤ L) : frow E k n [] = none := by
  cases e : frow E k n [] with
  | none => rfl
  | some z =>
    obtain ⟨t, rfl, ⟨a, b, d⟩, _⟩ := (frow_spec n [] prP_nil).1 z e
    exact (h.no a d fun x hx => by have := b x hx; omega).elim
theorem FewH.here {E : Nat → Nat → Bool} {n L : Nat} {r : List Nat} (h : FewH E n L r) : frow E (L + 1) n [] = some r := by
  obtain ⟨rl, rp, rc⟩ := mem_lrows.mp h.mem
  have rk : ∀ x ∈ r, x < L + 1 := topL_le.mp (by rw [h.top]; exact Nat.le_refl _)
  cases e : frow E (L + 1) n [] with
  | none => exact ((frow_spec n [] prP_nil).2 e r ⟨rl, rk, rp⟩).elim
  | some z =>
    obtain ⟨t, rfl, ⟨a, b, d⟩, least⟩ := (frow_spec n [] prP_nil).1 z e
    have c := least_canon (E := E) (k := L + 1) d b fun r' q1 q2 q3 => least r' ⟨by rw [q1]; exact a, q3, q2⟩
    have m := mem_lrows.mpr ⟨a, d, c⟩
    have t1 := h.few _ m
    have t2 := topL_le.mpr b
    have q := h.fst _ m (by simp only [List.nil_append] at *; omega)
    rw [lx_anti q (least r ⟨rl, rk, rp⟩)]
theorem FewH.le {E : Nat → Nat → Bool} {n L : Nat} {r : List Nat} (h : FewH E n L r) : L + 1 ≤ n := by
  obtain ⟨rl, _, rc⟩ := mem_lrows.mp h.mem
  have := canon_top rc
  rw [h.top, rl] at this
  exact this
theorem FewH.hues {E : Nat → Nat → Bool} {n L : Nat} {r : List Nat} (h : FewH E n L r) : firstS n (fun k => frow E (k + 1) n []) = some r :=
  firstS_some.mpr ⟨L, by have := h.le; omega, h.here, fun j hj => h.low (by omega)⟩
/-! ### lots whose members are apart two by two -/
def Clq (E : Nat → Nat → Bool) (n : Nat) (l : List Nat) : Prop := l.Pairwise (fun a b => a < b ∧ E a b = true) ∧ ∀ x ∈ l, x < n
theorem clq_snoc {E : Nat → Nat → Bool} {n : Nat} {l : List Nat} {c : Nat} : Clq E n (l ++ [c]) ↔ Clq E n l ∧ c < n ∧ (∀ a ∈ l, a < c ∧ E a c = true) := by
  unfold Clq
  rw [List.pairwise_append]
  constructor
  · rintro ⟨⟨a, _, b⟩, d⟩
    exact ⟨⟨a, fun x hx => d x (List.mem_append_left _ hx)⟩, d c (List.mem_append_right _ List.mem_cons_self), fun x hx => b x hx c List.mem_cons_self⟩
  · rintro ⟨⟨a, d⟩, e, b⟩
    refine ⟨⟨a, List.pairwise_singleton _ _, fun x hx y hy => ?_⟩, fun x hx => ?_⟩
    · rw [List.mem_singleton.mp hy]
      exact b x hx
    · rcases List.mem_append.mp hx with hx | hx
      · exact d x hx
      · rw [List.mem_singleton.mp hx]
        exact e
theorem clq_len {E : Nat → Nat → Bool} {n : Nat} {l : List Nat} (h : Clq E n l) : l.length ≤ n := by
  have nd : l.Nodup := h.1.imp fun z => by omega
  have z := nodup_sub_len' (ns := List.range n) nd fun x hx => List.mem_range.mpr (h.2 x hx)
  rw [List.length_range] at z
  exact z
theorem clq_take {E : Nat → Nat → Bool} {n : Nat} {l : List Nat} (h : Clq E n l) (k : Nat) : Clq E n (l.take k) :=
  ⟨h.1.sublist (List.take_sublist _ _), fun x hx => h.2 x (List.mem_of_mem_take hx)⟩
/-- the program's lots of m + 1 members -/
def plots (E : Nat → Nat → Bool) (n : Nat) : Nat → List (List Nat)
  | 0 => (List.range n).map fun c => [c]
  | m + 1 => (plots E n m).flatMap fun lot => ((List.range' (lot.getLastD 0 + 1) (n - (lot.getLastD 0 + 1))).filter fun c => lot.all fun k => E k c).map fun c => lot ++ [c]
theorem mem_plots {E : Nat → Nat → Bool} {n : Nat} : ∀ {m : Nat} {l : List Nat}, l ∈ plots E n m ↔ l.length = m + 1 ∧ Clq E n l
  | 0, l => by
    show l ∈ (List.range n).map _ ↔ _
    rw [List.mem_map]
    constructor
    · rintro ⟨c, hc, rfl⟩
      refine ⟨rfl, List.pairwise_singleton _ _, fun x hx => ?_⟩
      rw [List.mem_singleton.mp hx]
      exact List.mem_range.mp hc
    · rintro ⟨a, b⟩
      match l, a with
      | [c], _ => exact ⟨c, List.mem_range.mpr (b.2 c List.mem_cons_self), rfl⟩
  | m + 1, l => by
    show l ∈ (plots E n m).flatMap _ ↔ _
    rw [List.mem_flatMap]
    constructor
    · rintro ⟨lot, h1, h2⟩
      obtain ⟨c, h3, rfl⟩ := List.mem_map.mp h2
      rw [List.mem_filter, List.mem_range'_1, List.all_eq_true] at h3
      obtain ⟨a, b⟩ := mem_plots.mp h1
      refine ⟨by rw [List.length_append, a]; rfl, clq_snoc.mpr ⟨b, by omega, fun x hx => ⟨?_, h3.2 x hx⟩⟩⟩
      have ne : lot ≠ [] := fun z => by rw [z] at a; cases a
      have e := List.dropLast_concat_getLast ne
      have gl : lot.getLastD 0 = lot.getLast ne := by
        rw [List.getLastD_eq_getLast?, List.getLast?_eq_some_getLast ne]
        rfl
      rw [gl] at h3
      rw [← e] at hx b
      rcases List.mem_append.mp hx with hx | hx
      · have := (clq_snoc.mp b).2.2 x hx
        omega
      · rw [List.mem_singleton.mp hx]
        omega
    · rintro ⟨a, b⟩
      have ne : l ≠ [] := fun z => by rw [z] at a; cases a
      have e := List.dropLast_concat_getLast ne
      generalize hl : l.getLast ne = x at e
      have len : l.dropLast.length = m + 1 := by rw [List.length_dropLast, a]; rfl
      generalize l.dropLast = p at e len
      subst e
      obtain ⟨b1, b2, b3⟩ := clq_snoc.mp b
      have ne2 : p ≠ [] := fun z => by rw [z] at len; cases len
      have gl : p.getLastD 0 = p.getLast ne2 := by
        rw [List.getLastD_eq_getLast?, List.getLast?_eq_some_getLast ne2]
        rfl
      have hlast := (b3 _ (List.getLast_mem ne2)).1
      refine ⟨p, mem_plots.mpr ⟨len, b1⟩, List.mem_map.mpr ⟨x, List.mem_filter.mpr ⟨List.mem_range'_1.mpr ?_, List.all_eq_true.mpr fun k hk => (b3 k hk).2⟩, rfl⟩⟩
      rw [gl]
      omega
theorem plots_up {E : Nat → Nat → Bool} {n : Nat} : ∀ m, (plots E n m).Pairwise fun a b => lx a b = true
  | 0 => by
    show ((List.range n).map _).Pairwise _
    rw [List.pairwise_map]
    exact List.pairwise_lt_range.imp fun h => lx_cons.mpr (.inl h)
  | m + 1 => by
    show ((plots E n m).flatMap _).Pairwise _
    rw [List.pairwise_flatMap]
    constructor
    · intro lot _
      rw [List.pairwise_map]
      refine List.Pairwise.filter _ ?_
      refine (List.pairwise_lt_range' (s := lot.getLastD 0 + 1) (n := n - (lot.getLastD 0 + 1))).imp fun {a b} h => ?_
      rw [lx_pre_same]
      exact lx_cons.mpr (.inl h)
    · refine ((plots_up m).imp_of_mem fun {a b} ha hb h => ?_)
      intro x hx y hy
      obtain ⟨c, _, rfl⟩ := List.mem_map.mp hx
      obtain ⟨d, _, rfl⟩ := List.mem_map.mp hy
      exact lx_app _ _ (by rw [(mem_plots.mp ha).1, (mem_plots.mp hb).1]) h
/-- the law's lots -/
def llots (E : Nat → Nat → Bool) : Nat → List (List Nat)
  | 0 => [[]]
  | c + 1 => llots E c ++ ((llots E c).filter fun lot => lot.all fun a => E a c).map fun lot => lot ++ [c]
theorem mem_llots {E : Nat → Nat → Bool} : ∀ {c : Nat} {l : List Nat}, l ∈ llots E c ↔ Clq E c l
  | 0, l => by
    show l ∈ [[]] ↔ _
    rw [List.mem_singleton]
    constructor
    · rintro rfl
      exact ⟨.nil, fun x hx => absurd hx List.not_mem_nil⟩
    · rintro ⟨_, h⟩
      match l, h with
      | [], _ => rfl
      | x :: _, h => exact absurd (h x List.mem_cons_self) (Nat.not_lt_zero _)
  | c + 1, l => by
    show l ∈ llots E c ++ _ ↔ _
    rw [List.mem_append]
    constructor
    · rintro (h | h)
      · obtain ⟨a, b⟩ := mem_llots.mp h
        exact ⟨a, fun x hx => by have := b x hx; omega⟩
      · obtain ⟨lot, h1, rfl⟩ := List.mem_map.mp h
        rw [List.mem_filter, List.all_eq_true] at h1
        obtain ⟨a, b⟩ := mem_llots.mp h1.1
        exact clq_snoc.mpr ⟨⟨a, fun x hx => by have := b x hx; omega⟩, by omega, fun x hx => ⟨b x hx, h1.2 x hx⟩⟩
    · intro h
      by_cases q : ∀ x ∈ l, x < c
      · exact .inl (mem_llots.mpr ⟨h.1, q⟩)
      · refine .inr ?_
        have ne : l ≠ [] := fun z => q fun x hx => by rw [z] at hx; cases hx
        have e := List.dropLast_concat_getLast ne
        generalize hl : l.getLast ne = x at e
        generalize l.dropLast = p at e
        subst e
        obtain ⟨b1, b2, b3⟩ := clq_snoc.mp h
        have : x = c := by
          apply Classical.byContradiction
          intro z
          refine q fun y hy => ?_
          rcases List.mem_append.mp hy with hy | hy
          · have := (b3 y hy).1
            omega
          · rw [List.mem_singleton.mp hy]
            omega
        subst this
        exact List.mem_map.mpr ⟨p, List.mem_filter.mpr ⟨mem_llots.mpr ⟨b1.1, fun y hy => (b3 y hy).1⟩, List.all_eq_true.mpr fun y hy => (b3 y hy).2⟩, rfl⟩
theorem llots_len {E : Nat → Nat → Bool} : ∀ c, (llots E c).length ≤ 2 ^ c
  | 0 => Nat.le_refl 1
  | c + 1 => by
    show (llots E c ++ _).length ≤ _
    rw [List.length_append, List.length_map]
    have := List.length_filter_le (fun lot => lot.all fun a => E a c) (llots E c)
    have := llots_len (E := E) c
    rw [Nat.pow_succ]
    omega
/-- the first of the longest -/
structure LongL (E : Nat → Nat → Bool) (n : Nat) (l : List Nat) : Prop where
  clq : Clq E n l
  long : ∀ m, Clq E n m → m.length ≤ l.length
  fst : ∀ m, Clq E n m → m.length = l.length → lx m l = false
theorem LongL.one {E : Nat → Nat → Bool} {n : Nat} {l l' : List Nat} (h : LongL E n l) (h' : LongL E n l') : l = l' := by
  have e := Nat.le_antisymm (h'.long l h.clq) (h.long l' h'.clq)
  exact lx_anti (h'.fst l h.clq e) (h.fst l' h'.clq e.symm)
theorem long_plots {E : Nat → Nat → Bool} {n m : Nat} {l : List Nat} {t : List (List Nat)} (h : plots E n m = l :: t) (hn : plots E n (m + 1) = []) : LongL E n l := by
  have hm : l ∈ plots E n m := by rw [h]; exact List.mem_cons_self
  obtain ⟨a, b⟩ := mem_plots.mp hm
  refine ⟨b, fun k hk => ?_, fun k hk e => ?_⟩
  · apply Classical.byContradiction
    intro q
    have z : k.take (m + 2) ∈ plots E n (m + 1) := mem_plots.mpr ⟨by rw [List.length_take]; omega, clq_take hk _⟩
    rw [hn] at z
    cases z
  · have z : k ∈ plots E n m := mem_plots.mpr ⟨by omega, hk⟩
    rw [h] at z
    rcases List.mem_cons.mp z with rfl | z
    · exact lx_refl _
    · have u := plots_up (E := E) (n := n) m
      rw [h] at u
      have u := (List.pairwise_cons.mp u).1 k z
      cases c : lx k l with
      | false => rfl
      | true =>
        have := lx_trans u c
        rw [lx_refl] at this
        cases this
/-- a lot needs as many hues -/
theorem clq_hues {E : Nat → Nat → Bool} {n : Nat} {l r : List Nat} (hl : Clq E n l) (hr : PrP E r) (hn : r.length = n) : l.length ≤ topL r := by
  have nd : (l.map fun a => r.getD a 0).Nodup := by
    rw [List.Nodup, List.pairwise_map]
    refine hl.1.imp_of_mem fun {a b} ha hb h => hr a b h.1 (by rw [hn]; exact hl.2 b hb) h.2
  have z := nodup_sub_len' (ns := List.range (topL r)) nd fun x hx => by
    obtain ⟨a, ha, rfl⟩ := List.mem_map.mp hx
    have := hl.2 a ha
    refine List.mem_range.mpr (topL_mem ?_)
    rw [List.getD_eq_getElem?_getD, List.getElem?_eq_getElem (by omega)]
    exact List.getElem_mem _
  rw [List.length_map, List.length_range] at z
  exact z
end K16

set_option maxRecDepth 100000
set_option maxHeartbeats 8000000
namespace K16
open PySem PySem.Spec PyProof.Rows L2 Kw
section
variable {P : Program} {w : World} {K : PySem.W.Frag} {mg : Str → Option Value} {base : Heap} {f fP fD : Addr} {fd fdP fdD : FuncData}
def spLClash : Sp := fun vs H Q _ => ∃ (ak ah : Addr) (us : List V) (ks : List (List Nat)) (hs : List (Option Nat)), vs = [.ref ak, .ref ah] ∧ KinH H ak ah us ks hs ∧ ∀ v H' o, Same H H' → FirstC ks hs o → OptTup H' v o → Q v H'
theorem sc_lclash : FnScope ["_law_kin_here", "_law_hues", "_law_c", "_law_pair"] ["_law_kin_here", "_law_hues"] (defScope (top 57)) := ⟨rfl, rfl, rfl, by decide +kernel, rfl, by decide +kernel, by decide +kernel⟩
theorem ok_lclash (F : FnP K "_law_clash" 57 f fd) (B : Fr mg) (FP : FnP K "_law_pair_among" 56 fP fdP) (mP : mg "_law_pair_among" = some (.ref fP)) : FnOk P w K mg base CX0 2 f fd ["_law_kin_here", "_law_hues"] spLClash := by
  have GP : FnOk P w K mg base CX0 1 fP fdP ["_law_kin_here", "_law_hues", "_law_among"] spPairAm := ok_pairAm FP B
  have bP : L2.Binds K fdP ["_law_kin_here", "_law_hues", "_law_among"] [] := FP.bindsN fun _ _ _ _ _ _ us hl => match us, hl with | [_, _, _], _ => rfl
  refine F.ok sc_lclash (fun vs H Q E h => ?_) (fun cdv A outer s H vs Q E hr h => ?_)
  · obtain ⟨ak, ah, us, ks, hs, rfl, _⟩ := h
    rfl
  · obtain ⟨ak, ah, us, ks, hs, rfl, hk, k⟩ := h
    have hk0 := hk
    obtain ⟨h1, h2, h3, hl, h12, ok⟩ := hk
    refine ⟨_, PSs.nox (pss_cons (ps_for PassesOwn.never rfl (pi_range1 (by rfl) B.range (pa_cons (pe_callB call_len_seq (by rfl) B.len PySem.boot_len (pa_cons (pv 0) pa_nil)) pa_nil)) (pg_name (i := 2) sc_lclash.nd rfl (Or.inl rfl))
        (pss_cons (ps_set (i := 3) sc_lclash.nd rfl (Or.inl rfl) (pe_call GP hr (by rfl) mP FP.kp bP .nil pass0 (pa_cons (pv 0) (pa_cons (pv 1) (pa_cons (pe_ix (r := rIxL K) ix_list (pv 0) (pv 2) (fun _ _ => rfl)) pa_nil)))))
        (pss_one (ps_if (pt_cmpR op_notN (pv 3) pe_non (nomark _)) (pss_one (ps_ret (pe_tup (pa_cons (pv 2) (pa_cons (pe_ix (r := rIxT K) ix_tup (pv 3) pe_int (fun _ _ => rfl)) (pa_cons (pe_ix (r := rIxT K) ix_tup (pv 3) pe_int (fun _ _ => rfl)) pa_nil)))))) pss_nil))))
      (pss_one (ps_ret pe_non))), ?_⟩
    have hul : us.length = ks.length := h2.len
    refine ⟨_, rfl, ak, us, rfl, .inl (SqL.of h1), _, rfl, by omega, by omega, ?_⟩
    refine for_range (n := us.length) (fun i σ H' => Same H H' ∧ (∃ x2 x3, σ = [some (.ref ak), some (.ref ah), x2, x3]) ∧ ∀ c' < i, Least (condL ks hs) (ks.getD c' []) none) ⟨Same.refl _, ⟨_, _, rfl⟩, fun c' z => absurd z (Nat.not_lt_zero _)⟩ ?_ ?_
    · rintro i σ H' hi ⟨sH, ⟨x2, x3, rfl⟩, hno⟩
      have ei : (0 : Int) + (i : Int) = (i : Int) := by omega
      rw [ei]
      have hi' : i < ks.length := by omega
      obtain ⟨row, hrow⟩ : ∃ row, ks[i]? = some row := ⟨_, List.getElem?_eq_getElem hi'⟩
      have hgd : ks.getD i [] = row := by
        rw [List.getD_eq_getElem?_getD, hrow]
        rfl
      obtain ⟨g1, g2, g3, _⟩ := hk0.same sH
      obtain ⟨t, et, ht⟩ := g2.get hrow
      have upr := ok.up i hi'
      rw [hgd] at upr
      refine ⟨_, rfl, _, rfl, _, rfl, _, rfl, ak, us, (i : Int), _, rfl, rfl, SqL.of g1, atI_nat et, ?_⟩
      refine ⟨ak, ah, t, us, ks, hs, row, rfl, g1, g2, g3, ht, upr, fun x hx => ?_, fun v H2 o s2 hO hL => ?_⟩
      · have := ok.le i hi' x (by rw [hgd]; exact hx)
        omega
      · refine ⟨_, rfl, rfl, _, rfl, ?_⟩
        rw [← hgd] at hL
        rcases hO with ⟨rfl, rfl⟩ | ⟨l, t2, rfl, rfl, ht2⟩
        · refine iteF' rfl ⟨sH.trans s2, ⟨_, _, rfl⟩, fun c' hc' => ?_⟩
          by_cases z : c' = i
          · rw [z]
            exact hL
          · exact hno c' (by omega)
        · rcases hL with ⟨z, _⟩ | ⟨a', b', z, hL⟩
          · cases z
          · obtain rfl := Option.some.inj z
            refine iteT' rfl ⟨_, rfl, _, rfl, t2, _, _, natV a', rfl, rfl, SqT.of ht2, rfl, _, rfl, t2, _, _, natV b', rfl, rfl, SqT.of ht2, rfl, (by show 3 ≤ sizeLine; decide), fun q hq => ?_⟩
            exact k _ _ (some [i, a', b']) ((sH.trans s2).trans (same_new hq)) (.inr ⟨i, a', b', rfl, hi', hno, .inr ⟨a', b', rfl, hL⟩⟩) (.inr ⟨_, q, rfl, rfl, upd_same⟩)
    · rintro σ H' ⟨sH, ⟨x2, x3, rfl⟩, hno⟩
      exact k .non H' none sH (.inl ⟨rfl, fun c hc => hno c (by omega)⟩) (.inl ⟨rfl, rfl⟩)
end
end K16

set_option maxRecDepth 100000
set_option maxHeartbeats 8000000
namespace K16
open PySem PySem.Spec PyProof.Rows L2 Kw
theorem Ty0.isTup {K : PySem.W.Frag} {H : Hp} {x : V} {t : String} (h : Ty0 H x t) : PySem.W.kitOne K (.type t) (.type "tuple") = some (t == "tuple") := by
  cases h <;> exact kit_ty (by decide +kernel)
theorem Ty0.isStr {K : PySem.W.Frag} {H : Hp} {x : V} {t : String} (h : Ty0 H x t) : PySem.W.kitOne K (.type t) (.type "str") = some (t == "str") := by
  cases h <;> exact kit_ty (by decide +kernel)
/-- a plain thing: None, a bool, a number, a text -/
def Flat : V → Prop
  | .non => True
  | .bl _ => True
  | .int _ => True
  | .str _ => True
  | _ => False
/-- the thing is just what is due: plain, or tuples of such, n deep -/
def Exact (H : Hp) : Nat → V → V → Prop
  | 0, x, d => x = d ∧ Flat d
  | n + 1, x, d => (x = d ∧ Flat d) ∨ ∃ a b xs ys, x = .ref a ∧ d = .ref b ∧ H a = some (.tup xs) ∧ H b = some (.tup ys) ∧ xs.length = ys.length ∧ ys.length ≤ 1000 ∧ ∀ (i : Nat) (u v : V), xs[i]? = some u → ys[i]? = some v → Exact H n u v
theorem Exact.same {H H' : Hp} (s : Same H H') : ∀ {n : Nat} {x d : V}, Exact H n x d → Exact H' n x d
  | 0, _, _, h => h
  | n + 1, _, _, .inl h => .inl h
  | n + 1, _, _, .inr ⟨a, b, xs, ys, e1, e2, h1, h2, h3, h5, h4⟩ => .inr ⟨a, b, xs, ys, e1, e2, s _ _ h1, s _ _ h2, h3, h5, fun i u v hu hv => (h4 i u v hu hv).same s⟩
def spExact (n : Nat) : Sp := fun vs H Q _ => ∃ x d, vs = [x, d] ∧ Exact H n x d ∧ ∀ H', Same H H' → Q (.bl true) H'
section
variable {P : Program} {w : World} {K : PySem.W.Frag} {mg : Str → Option Value} {base : Heap} {f fI : Addr} {fd fdI : FuncData}
def spInt : Sp := fun vs H Q _ => ∃ i, vs = [.int i] ∧ Q (.bl true) H
theorem sc_int : FnScope ["_law_thing"] ["_law_thing"] (defScope (top 52)) := ⟨rfl, rfl, rfl, by decide +kernel, rfl, by decide +kernel, by decide +kernel⟩
theorem ok_int (F : FnP K "_law_int" 52 f fd) (B : Fr mg) : FnOk P w K mg base CX0 1 f fd ["_law_thing"] spInt := by
  refine F.ok sc_int (fun vs H Q E h => ?_) (fun cdv A outer s H vs Q E hr h => ?_)
  · obtain ⟨i, rfl, _⟩ := h
    rfl
  · obtain ⟨i, rfl, k⟩ := h
    refine ⟨_, PSs.nox (pss_one (ps_ret (pe_and (pe_callB call_isi (by rfl) B.isinstance PyProof.Rows.boot_isinstance (pa_cons (pv 0) (pa_cons (pe_bltn (v := .ty "int") (by rfl) B.int PyProof.Rows.boot_int rfl) pa_nil)))
      (pe_one (pe_not (pe_callB call_isi (by rfl) B.isinstance PyProof.Rows.boot_isinstance (pa_cons (pv 0) (pa_cons (pe_bltn (v := .ty "bool") (by rfl) B.bool PyProof.Rows.boot_bool rfl) pa_nil)))))))), ?_⟩
    have ty : Ty0 H (.int i) "int" := .int i
    exact ⟨_, rfl, _, _, _, _, _, rfl, .ty "int", ty.x, ty.isInt, _, rfl, iteT' rfl ⟨_, rfl, _, _, _, _, _, rfl, .ty "bool", ty.x, ty.isBool, _, rfl, k⟩⟩
theorem sc_exact : FnScope ["_law_thing", "_law_due", "_law_at"] ["_law_thing", "_law_due"] (defScope (top 53)) := ⟨rfl, rfl, rfl, by decide +kernel, rfl, by decide +kernel, by decide +kernel⟩
theorem ok_exact (F : FnP K "_law_exact" 53 f fd) (B : Fr mg) (zs : mg "str" = none) (mF : mg "_law_exact" = some (.ref f)) (FI : FnP K "_law_int" 52 fI fdI) (mI : mg "_law_int" = some (.ref fI)) : ∀ n : Nat, FnOk P w K mg base CX0 (n + 2) f fd ["_law_thing", "_law_due"] (spExact n) := by
  have GI : FnOk P w K mg base CX0 1 fI fdI ["_law_thing"] spInt := ok_int FI B
  have bI : L2.Binds K fdI ["_law_thing"] [] := FI.bindsN fun _ _ _ _ _ _ us hl => match us, hl with | [_], _ => rfl
  have bF : L2.Binds K fd ["_law_thing", "_law_due"] [] := F.bindsN fun _ _ _ _ _ _ us hl => match us, hl with | [_, _], _ => rfl
  intro n
  induction n with
  | zero =>
    refine F.ok sc_exact (fun vs H Q E h => ?_) (fun cdv A outer s H vs Q E hr h => ?_)
    · obtain ⟨x, d, rfl, _⟩ := h
      rfl
    · obtain ⟨x, d, rfl, ⟨rfl, hf⟩, k⟩ := h
      refine ⟨_, PSs.nox (pss_cons (ps_if (pt_val (pe_callB call_isi (by rfl) B.isinstance PyProof.Rows.boot_isinstance (pa_cons (pv 1) (pa_cons (pe_bltn (v := .ty "tuple") (by rfl) B.tuple PyProof.Rows.boot_tuple rfl) pa_nil)))) (pss_cons ps_never (pss_cons ps_never (pss_one ps_never))) pss_nil)
        (pss_cons (ps_if (pt_cmpR op_isN (pv 1) pe_non (nomark _)) (pss_one (ps_ret (pe_cmpR op_isN (pv 0) pe_non (nomark _)))) pss_nil)
        (pss_cons (ps_if (pt_val (pe_callB call_isi (by rfl) B.isinstance PyProof.Rows.boot_isinstance (pa_cons (pv 1) (pa_cons (pe_bltn (v := .ty "bool") (by rfl) B.bool PyProof.Rows.boot_bool rfl) pa_nil))))
          (pss_one (ps_ret (pe_and (pe_callB call_isi (by rfl) B.isinstance PyProof.Rows.boot_isinstance (pa_cons (pv 0) (pa_cons (pe_bltn (v := .ty "bool") (by rfl) B.bool PyProof.Rows.boot_bool rfl) pa_nil))) (pe_one (pe_cmpR op_eq (pv 0) (pv 1) (nomark _)))))) pss_nil)
        (pss_cons (ps_if (pt_val (pe_callB call_isi (by rfl) B.isinstance PyProof.Rows.boot_isinstance (pa_cons (pv 1) (pa_cons (pe_bltn (v := .ty "int") (by rfl) B.int PyProof.Rows.boot_int rfl) pa_nil))))
          (pss_one (ps_ret (pe_and (pe_call GI (hr.mono (by omega)) (by rfl) mI FI.kp bI .nil pass0 (pa_cons (pv 0) pa_nil)) (pe_one (pe_cmpR op_eq (pv 0) (pv 1) (nomark _)))))) pss_nil)
        (pss_one (ps_ret (pe_and (pe_callB call_isi (by rfl) B.isinstance PyProof.Rows.boot_isinstance (pa_cons (pv 0) (pa_cons (pe_bltn (v := .ty "str") (by rfl) zs PyProof.Rows.boot_str rfl) pa_nil))) (pe_one (pe_cmpR op_eq (pv 0) (pv 1) (nomark _)))))))))), ?_⟩
      have kk : ∀ d' : V, Q (.bl (decide (d' = d'))) H := fun d' => by
        rw [decide_eq_true rfl]
        exact k H (Same.refl H)
      cases x with
      | non =>
        have ty : Ty0 H .non "NoneType" := .non
        exact ⟨_, rfl, _, _, _, _, _, rfl, .ty "tuple", ty.x, ty.isTup, _, rfl, iteF' rfl ⟨_, rfl, rfl, _, rfl, iteT' rfl ⟨_, rfl, rfl, kk .non⟩⟩⟩
      | bl y =>
        have ty : Ty0 H (.bl y) "bool" := .bl y
        exact ⟨_, rfl, _, _, _, _, _, rfl, .ty "tuple", ty.x, ty.isTup, _, rfl, iteF' rfl ⟨_, rfl, rfl, _, rfl, iteF' rfl ⟨_, rfl, _, _, _, _, _, rfl, .ty "bool", ty.x, ty.isBool, _, rfl, iteT' rfl ⟨_, rfl, _, _, _, _, _, rfl, .ty "bool", ty.x, ty.isBool, _, rfl, iteT' rfl ⟨_, rfl, _, rfl, rfl, kk _⟩⟩⟩⟩⟩
      | int y =>
        have ty : Ty0 H (.int y) "int" := .int y
        exact ⟨_, rfl, _, _, _, _, _, rfl, .ty "tuple", ty.x, ty.isTup, _, rfl, iteF' rfl ⟨_, rfl, rfl, _, rfl, iteF' rfl ⟨_, rfl, _, _, _, _, _, rfl, .ty "bool", ty.x, ty.isBool, _, rfl, iteF' rfl ⟨_, rfl, _, _, _, _, _, rfl, .ty "int", ty.x, ty.isInt, _, rfl, iteT' rfl ⟨_, rfl, y, rfl, _, rfl, iteT' rfl ⟨_, rfl, _, rfl, rfl, kk _⟩⟩⟩⟩⟩⟩
      | str y =>
        have ty : Ty0 H (.str y) "str" := .str y
        exact ⟨_, rfl, _, _, _, _, _, rfl, .ty "tuple", ty.x, ty.isTup, _, rfl, iteF' rfl ⟨_, rfl, rfl, _, rfl, iteF' rfl ⟨_, rfl, _, _, _, _, _, rfl, .ty "bool", ty.x, ty.isBool, _, rfl, iteF' rfl ⟨_, rfl, _, _, _, _, _, rfl, .ty "int", ty.x, ty.isInt, _, rfl, iteF' rfl ⟨_, rfl, _, _, _, _, _, rfl, .ty "str", ty.x, ty.isStr, _, rfl, iteT' rfl ⟨_, rfl, _, rfl, rfl, kk _⟩⟩⟩⟩⟩⟩
      | _ => exact False.elim hf
  | succ n ih =>
    refine F.ok sc_exact (fun vs H Q E h => ?_) (fun cdv A outer s H vs Q E hr h => ?_)
    · obtain ⟨x, d, rfl, _⟩ := h
      rfl
    · obtain ⟨x, d, rfl, he, k⟩ := h
      refine ⟨_, PSs.nox (pss_cons (ps_if (pt_val (pe_callB call_isi (by rfl) B.isinstance PyProof.Rows.boot_isinstance (pa_cons (pv 1) (pa_cons (pe_bltn (v := .ty "tuple") (by rfl) B.tuple PyProof.Rows.boot_tuple rfl) pa_nil)))) (pss_cons (ps_if (PW.pt (pw_or (pt_not (pt_val (pe_callB call_isi (by rfl) B.isinstance PyProof.Rows.boot_isinstance (pa_cons (pv 0) (pa_cons (pe_bltn (v := .ty "tuple") (by rfl) B.tuple PyProof.Rows.boot_tuple rfl) pa_nil))))) (pw_or1 (pt_cmpR op_ne (pe_callB call_len_seq (by rfl) B.len PySem.boot_len (pa_cons (pv 0) pa_nil)) (pe_callB call_len_seq (by rfl) B.len PySem.boot_len (pa_cons (pv 1) pa_nil)) (nomark _))))) (pss_one (ps_ret pe_bl)) pss_nil)
          (pss_cons (ps_for PassesOwn.never rfl (pi_range1 (by rfl) B.range (pa_cons (pe_callB call_len_seq (by rfl) B.len PySem.boot_len (pa_cons (pv 1) pa_nil)) pa_nil)) (pg_name (i := 2) sc_exact.nd rfl (Or.inl rfl))
            (pss_one (ps_if (pt_not (pt_val (pe_call ih hr (by rfl) mF F.kp bF .nil pass0 (pa_cons (pe_ix (r := rIxT K) ix_tup (pv 0) (pv 2) (fun _ _ => rfl)) (pa_cons (pe_ix (r := rIxT K) ix_tup (pv 1) (pv 2) (fun _ _ => rfl)) pa_nil))))) (pss_one (ps_ret pe_bl)) pss_nil)))
          (pss_one (ps_ret pe_bl)))) pss_nil)
        (pss_cons (ps_if (pt_cmpR op_isN (pv 1) pe_non (nomark _)) (pss_one (ps_ret (pe_cmpR op_isN (pv 0) pe_non (nomark _)))) pss_nil)
        (pss_cons (ps_if (pt_val (pe_callB call_isi (by rfl) B.isinstance PyProof.Rows.boot_isinstance (pa_cons (pv 1) (pa_cons (pe_bltn (v := .ty "bool") (by rfl) B.bool PyProof.Rows.boot_bool rfl) pa_nil))))
          (pss_one (ps_ret (pe_and (pe_callB call_isi (by rfl) B.isinstance PyProof.Rows.boot_isinstance (pa_cons (pv 0) (pa_cons (pe_bltn (v := .ty "bool") (by rfl) B.bool PyProof.Rows.boot_bool rfl) pa_nil))) (pe_one (pe_cmpR op_eq (pv 0) (pv 1) (nomark _)))))) pss_nil)
        (pss_cons (ps_if (pt_val (pe_callB call_isi (by rfl) B.isinstance PyProof.Rows.boot_isinstance (pa_cons (pv 1) (pa_cons (pe_bltn (v := .ty "int") (by rfl) B.int PyProof.Rows.boot_int rfl) pa_nil))))
          (pss_one (ps_ret (pe_and (pe_call GI (hr.mono (by omega)) (by rfl) mI FI.kp bI .nil pass0 (pa_cons (pv 0) pa_nil)) (pe_one (pe_cmpR op_eq (pv 0) (pv 1) (nomark _)))))) pss_nil)
        (pss_one (ps_ret (pe_and (pe_callB call_isi (by rfl) B.isinstance PyProof.Rows.boot_isinstance (pa_cons (pv 0) (pa_cons (pe_bltn (v := .ty "str") (by rfl) zs PyProof.Rows.boot_str rfl) pa_nil))) (pe_one (pe_cmpR op_eq (pv 0) (pv 1) (nomark _)))))))))), ?_⟩
      rcases he with ⟨rfl, hf⟩ | ⟨a, b, xs, ys, rfl, rfl, ha, hb, hl, hz, hi⟩
      · have kk : ∀ d' : V, Q (.bl (decide (d' = d'))) H := fun d' => by
          rw [decide_eq_true rfl]
          exact k H (Same.refl H)
        cases x with
        | non =>
          have ty : Ty0 H .non "NoneType" := .non
          exact ⟨_, rfl, _, _, _, _, _, rfl, .ty "tuple", ty.x, ty.isTup, _, rfl, iteF' rfl ⟨_, rfl, rfl, _, rfl, iteT' rfl ⟨_, rfl, rfl, kk .non⟩⟩⟩
        | bl y =>
          have ty : Ty0 H (.bl y) "bool" := .bl y
          exact ⟨_, rfl, _, _, _, _, _, rfl, .ty "tuple", ty.x, ty.isTup, _, rfl, iteF' rfl ⟨_, rfl, rfl, _, rfl, iteF' rfl ⟨_, rfl, _, _, _, _, _, rfl, .ty "bool", ty.x, ty.isBool, _, rfl, iteT' rfl ⟨_, rfl, _, _, _, _, _, rfl, .ty "bool", ty.x, ty.isBool, _, rfl, iteT' rfl ⟨_, rfl, _, rfl, rfl, kk _⟩⟩⟩⟩⟩
        | int y =>
          have ty : Ty0 H (.int y) "int" := .int y
          exact ⟨_, rfl, _, _, _, _, _, rfl, .ty "tuple", ty.x, ty.isTup, _, rfl, iteF' rfl ⟨_, rfl, rfl, _, rfl, iteF' rfl ⟨_, rfl, _, _, _, _, _, rfl, .ty "bool", ty.x, ty.isBool, _, rfl, iteF' rfl ⟨_, rfl, _, _, _, _, _, rfl, .ty "int", ty.x, ty.isInt, _, rfl, iteT' rfl ⟨_, rfl, y, rfl, _, rfl, iteT' rfl ⟨_, rfl, _, rfl, rfl, kk _⟩⟩⟩⟩⟩⟩
        | str y =>
          have ty : Ty0 H (.str y) "str" := .str y
          exact ⟨_, rfl, _, _, _, _, _, rfl, .ty "tuple", ty.x, ty.isTup, _, rfl, iteF' rfl ⟨_, rfl, rfl, _, rfl, iteF' rfl ⟨_, rfl, _, _, _, _, _, rfl, .ty "bool", ty.x, ty.isBool, _, rfl, iteF' rfl ⟨_, rfl, _, _, _, _, _, rfl, .ty "int", ty.x, ty.isInt, _, rfl, iteF' rfl ⟨_, rfl, _, _, _, _, _, rfl, .ty "str", ty.x, ty.isStr, _, rfl, iteT' rfl ⟨_, rfl, _, rfl, rfl, kk _⟩⟩⟩⟩⟩⟩
        | _ => exact False.elim hf
      · have ta : Ty0 H (.ref a) "tuple" := .tup ha
        have tb : Ty0 H (.ref b) "tuple" := .tup hb
        refine ⟨_, rfl, _, _, _, _, _, rfl, .ty "tuple", tb.x, tb.isTup, _, rfl, iteT' rfl ?_⟩
        refine ⟨_, rfl, _, _, _, _, _, rfl, .ty "tuple", ta.x, ta.isTup, _, rfl, iteF' rfl ?_⟩
        refine ⟨_, rfl, a, xs, rfl, .inr (SqT.of ha), _, rfl, b, ys, rfl, .inr (SqT.of hb), rfl, _, rfl, ?_⟩
        rw [hl]
        refine iteF' (by simp) ?_
        refine ⟨_, rfl, b, ys, rfl, .inr (SqT.of hb), _, rfl, by omega, by omega, ?_⟩
        refine for_range (n := ys.length) (fun i σ H' => Same H H' ∧ ∃ x2, σ = [some (.ref a), some (.ref b), x2]) ⟨Same.refl _, _, rfl⟩ ?_ ?_
        · rintro i σ H' hil ⟨sH, x2, rfl⟩
          have ei : (0 : Int) + (i : Int) = (i : Int) := by omega
          rw [ei]
          obtain ⟨u, hu⟩ : ∃ u, xs[i]? = some u := ⟨_, List.getElem?_eq_getElem (by omega)⟩
          obtain ⟨v, hv⟩ : ∃ v, ys[i]? = some v := ⟨_, List.getElem?_eq_getElem hil⟩
          refine ⟨_, rfl, _, rfl, a, xs, _, _, rfl, rfl, SqT.of (sH _ _ ha), atI_nat hu, _, rfl, _, rfl, b, ys, _, _, rfl, rfl, SqT.of (sH _ _ hb), atI_nat hv, u, v, rfl, (hi i u v hu hv).same sH, fun H2 s2 => ?_⟩
          exact ⟨_, rfl, iteF' rfl ⟨sH.trans s2, _, rfl⟩⟩
        · rintro σ H' ⟨sH, x2, rfl⟩
          exact k H' sH
end
end K16

set_option maxRecDepth 100000
set_option maxHeartbeats 8000000
namespace K16
open PySem PySem.Spec PyProof.Rows L2 Kw
theorem flat_hV (o : Option Nat) : Flat (hV o) := by cases o <;> exact True.intro
theorem Exact.flat {H : Hp} {x : V} (n : Nat) (h : Flat x) : Exact H n x x := by
  cases n with
  | zero => exact ⟨rfl, h⟩
  | succ n => exact .inl ⟨rfl, h⟩
theorem Exact.tup {H : Hp} {a b : Addr} {xs : List V} (n : Nat) (ha : H a = some (.tup xs)) (hb : H b = some (.tup xs)) (hf : ∀ x ∈ xs, Flat x) (hz : xs.length ≤ 1000) : Exact H (n + 1) (.ref a) (.ref b) :=
  .inr ⟨a, b, xs, xs, rfl, rfl, ha, hb, rfl, hz, fun i u v hu hv => by
    rw [hu] at hv
    rw [← Option.some.inj hv]
    exact Exact.flat n (hf u (List.mem_of_getElem? hu))⟩
theorem passOut {X : Cx} {E : XK} : Passes (L2.CX X.prog X.w) X (fun _ _ _ => False) := fun _ _ _ _ _ _ _ h => by
  obtain ⟨_, _, _, _, _, _, _, _, _, _, _, _, h⟩ := h
  exact h.elim
/-- ladders as an object -/
def LadAt (H : Hp) (q Cl C p : Addr) (ds : List Ent) (hs : List (Option Nat)) : Prop := ∃ dq t, H q = some (.ins Cl dq [("world", .ref p), ("hues", .ref t)]) ∧ H t = some (.tup (hs.map hV)) ∧ WorldAt H p C ds
/-- right hues of a right world -/
structure LadOk (ds : List Ent) (hs : List (Option Nat)) : Prop where
  ok : DsOk ds
  len : hs.length = ds.length
  few : ds.length ≤ 12
  hue : ∀ o ∈ hs, ∀ h, o = some h → h < 8
theorem LadAt.mono {H H' : Hp} {q Cl C p : Addr} {ds : List Ent} {hs : List (Option Nat)} (h : LadAt H q Cl C p ds hs) (s : Same H H') : LadAt H' q Cl C p ds hs := by
  obtain ⟨dq, t, h1, h2, h3⟩ := h
  exact ⟨dq, t, s _ _ h1, s _ _ h2, h3.mono s⟩
def ladH (hs : List (Option Nat)) (row : List Nat) (h : Nat) : List Nat := row.filter fun k => hueOf hs k == some h
theorem ladH_like {hs : List (Option Nat)} {row : List Nat} {x h : Nat} (e : hueOf hs x = some h) : likeH hs row x = ladH hs row h := by
  unfold likeH ladH
  rw [e]
theorem mem_lad {hs : List (Option Nat)} {row : List Nat} {h k : Nat} : k ∈ ladH hs row h ↔ k ∈ row ∧ hueOf hs k = some h := by
  unfold ladH
  rw [List.mem_filter, beq_iff_eq]
theorem kin_props {ds : List Ent} (ok : DsOk ds) {x : Nat} (h : x < ds.length) : ((kins (elsOf ds)).getD x []).Pairwise (· < ·) ∧ (∀ k ∈ (kins (elsOf ds)).getD x [], k ≤ x) := by
  have z := kin_up (ds.map (·.1)) x (by rw [List.length_map]; exact h)
  rw [← kins_getD (by rw [elders_len, List.length_map]; exact h)] at z
  exact z
theorem kin_len {ds : List Ent} (ok : DsOk ds) {x : Nat} (h : x < ds.length) (h12 : ds.length ≤ 12) : ((kins (elsOf ds)).getD x []).length ≤ 12 := by
  obtain ⟨u, l⟩ := kin_props ok h
  have h1 := nodup_sub_len' (ns := List.range 12) (up_nodup u) fun k hk => List.mem_range.mpr (by have := l k hk; omega)
  rw [List.length_range] at h1
  exact h1
theorem sortN_nat {l : List Nat} (up : l.Pairwise (· < ·)) (h6 : ∀ m ∈ l, m < 6) : (sortN l).map natV = l.map natV := by
  have e : ((sortN l).map fun (n : Nat) => (n : Int)).map V.int = (sortN l).map natV := by
    rw [List.map_map]
    rfl
  rw [← e]
  refine asc_one ?_ up fun k => ?_
  · have u : (sortN l).Pairwise (· < ·) := List.Pairwise.filter _ List.pairwise_lt_range
    exact List.pairwise_map.mpr (u.imp fun z => by omega)
  · rw [List.mem_map]
    constructor
    · rintro ⟨n, hn, rfl⟩
      unfold sortN at hn
      rw [List.mem_filter] at hn
      exact ⟨n, by simpa using hn.2, rfl⟩
    · rintro ⟨n, hn, rfl⟩
      refine ⟨n, ?_, rfl⟩
      unfold sortN
      rw [List.mem_filter, List.mem_range]
      exact ⟨h6 n hn, by simpa using hn⟩
section
variable {P : Program} {w : World} {K : PySem.W.Frag} {mg : Str → Option Value} {base : Heap} {f fS fW fN fC fL fI fU fH fA fWW fWI C Cn Cc Cl Cnl Ck Cb : Addr} {fd fdS fdW fdN fdC fdL fdI fdU fdH fdA fdWW fdWI : FuncData}
def LookAt (H : Hp) (p Ck : Addr) (a b c d : V) : Prop := ∃ dx, H p = some (.ins Ck dx [("hue", a), ("place", b), ("found", c), ("answer", d)])
def spLookI (Ck : Addr) : Sp := fun vs H Q _ => ∃ (p dx : Addr) (x y z u : V), vs = [.ref p, x, y, z, u] ∧ H p = some (.ins Ck dx []) ∧ ∀ H', Oth p H H' → LookAt H' p Ck x y z u → Q .non H'
theorem sc_lookI : FnScope ["self", "hue", "place", "found", "answer"] ["self", "hue", "place", "found", "answer"] (defScope (inClass (top 22) 0)) := ⟨rfl, rfl, rfl, by decide +kernel, rfl, by decide +kernel, by decide +kernel⟩
theorem ok_lookI (F : FnM K "__init__" "Look.__init__" (inClass (top 22) 0) f fd) (T : ClsF K Ck ["hue", "place", "found", "answer"]) : FnOk P w K mg base CX0 1 f fd ["self", "hue", "place", "found", "answer"] (spLookI Ck) ∧ Binds K fd ["self", "hue", "place", "found", "answer"] [] := by
  refine ⟨F.ok sc_lookI (fun vs H Q E h => ?_) (fun cdv A outer s H vs Q E hr h => ?_), F.bindsN fun _ _ _ _ _ _ us hl => match us, hl with | [_, _, _, _, _], _ => rfl⟩
  · obtain ⟨p, dx, x, y, z, u, rfl, _⟩ := h
    rfl
  · obtain ⟨p, dx, x, y, z, u, rfl, hp, k⟩ := h
    refine ⟨_, PSs.nox (pss_cons (ps_fld (pv 0) (pv 1) rfl) (pss_cons (ps_fld (pv 0) (pv 2) rfl) (pss_cons (ps_fld (pv 0) (pv 3) rfl) (pss_one (ps_fld (pv 0) (pv 4) rfl))))), ?_⟩
    refine ⟨_, rfl, _, rfl, p, Ck, dx, [], rfl, hp, T.cl, T.no _ (List.mem_of_getElem? (i := 0) rfl), by simp, ?_⟩
    refine ⟨_, rfl, _, rfl, p, Ck, dx, _, rfl, upd_same, T.cl, T.no _ (List.mem_of_getElem? (i := 1) rfl), (by show 1 < _; decide), ?_⟩
    refine ⟨_, rfl, _, rfl, p, Ck, dx, _, rfl, upd_same, T.cl, T.no _ (List.mem_of_getElem? (i := 2) rfl), (by show 2 < _; decide), ?_⟩
    refine ⟨_, rfl, _, rfl, p, Ck, dx, _, rfl, upd_same, T.cl, T.no _ (List.mem_of_getElem? (i := 3) rfl), (by show 3 < _; decide), ?_⟩
    exact k _ (Oth.upd (Oth.upd (Oth.upd (Oth.upd (Oth.of (Same.refl H)))))) ⟨dx, upd_same⟩
end
end K16

set_option maxRecDepth 100000
set_option maxHeartbeats 8000000
namespace K16
open PySem PySem.Spec PyProof.Rows L2 Kw
theorem ladH_take {hs : List (Option Nat)} {row : List Nat} {h j k : Nat} (hk : row[j]? = some k) : ladH hs (row.take (j + 1)) h = ladH hs (row.take j) h ++ (if (hueOf hs k == some h) = true then [k] else []) := by
  unfold ladH
  rw [List.take_add_one, hk, Option.toList_some, List.filter_append]
  congr 1
  cases e : (hueOf hs k == some h) with
  | true => rw [List.filter_cons_of_pos (by exact e)]; rfl
  | false => rw [List.filter_cons_of_neg (by rw [e]; decide)]; rfl
section
variable {P : Program} {w : World} {K : PySem.W.Frag} {mg : Str → Option Value} {base : Heap} {f fS fW fN fC fL fI fU fH fA fO fD C Cn Cc Cl Cnl Ck Cb : Addr} {fd fdS fdW fdN fdC fdL fdI fdU fdH fdA fdO fdD : FuncData}
def spLadOf (C Cl : Addr) : Sp := fun vs H Q _ => ∃ (q p : Addr) (ds : List Ent) (hs : List (Option Nat)) (c h : Nat), vs = [.ref q, natV c, natV h] ∧ LadAt H q Cl C p ds hs ∧ LadOk ds hs ∧ c < ds.length ∧ h < 8 ∧
  ∀ t H', Same H H' → H' t = some (.tup ((ladH hs ((kins (elsOf ds)).getD c []) h).map natV)) → Q (.ref t) H'
theorem sc_ladOf : FnScope ["self", "c", "hue", "k"] ["self", "c", "hue"] (defScope (inClass (top 23) 1)) := ⟨rfl, rfl, rfl, by decide +kernel, rfl, by decide +kernel, by decide +kernel⟩
theorem ok_ladOf (F : FnM K "ladder_of" "Ladders.ladder_of" (inClass (top 23) 1) f fd) (B : Fr mg) (TC : ClsWorld K mg C) (TL : ClsF K Cl ["world", "hues"]) (z7 : ∃ t, mg "MOST_HUE" = some (.int 7 t)) (FC : FnP K "check_class" 15 fC fdC) (mC : mg "check_class" = some (.ref fC)) (FW : FnDf K "is_whole" 12 [.non, .non] fW fdW) (mW : mg "is_whole" = some (.ref fW)) (FN : FnM K "__init__" "NoClass.__init__" (inClass (top 5) 0) fN fdN) (TN : ErrX K mg "NoClass" ["cls"] Cn fN) :
    FnOk P w K mg base CX0 4 f fd ["self", "c", "hue"] (spLadOf C Cl) ∧ Binds K fd ["self", "c", "hue"] [] := by
  have GC : FnOk P w K mg base (L2.CX P w) 3 fC fdC ["world", "c"] (spCheck C Cn) := ok_check FC B TC FW mW FN TN
  have bC : L2.Binds K fdC ["world", "c"] [] := FC.bindsN fun _ _ _ _ _ _ us hl => match us, hl with | [_, _], _ => rfl
  have GW : FnOk P w K mg base CX0 1 fW fdW ["thing", "low", "high"] spWhole := ok_whole FW B
  have bW := binds_whole3 FW
  obtain ⟨t7, z7⟩ := z7
  refine ⟨F.ok sc_ladOf (fun vs H Q E h => ?_) (fun cdv A outer s H vs Q E hr h => ?_), F.bindsN fun _ _ _ _ _ _ us hl => match us, hl with | [_, _, _], _ => rfl⟩
  · obtain ⟨q, p, ds, hs, c, h, rfl, _⟩ := h
    rfl
  · obtain ⟨q, p, ds, hs, c, h, rfl, hL, lok, hc, h8, k⟩ := h
    refine ⟨_, PSs.nox (pss_cons (ps_expr (pe_call GC hr (by rfl) mC FC.kp bC .nil (passOut (E := fun _ _ _ => False)) (pa_cons (pe_fld (pv 0) rfl) (pa_cons (pv 1) pa_nil))))
      (pss_cons (ps_if (pt_not (pt_val (pe_call GW (hr.mono (by decide)) (by rfl) mW FW.kp bW .nil pass0 (pa_cons (pv 2) (pa_cons pe_int (pa_cons (pe_glob (v := .int 7) (by rfl) z7 ⟨_, rfl⟩) pa_nil)))))) (pss_one ps_never) pss_nil)
      (pss_one (ps_ret (pe_callTy (T := "tuple") (r := rTupOf K) (call_tup (X := _)) (by rfl) B.tuple (by decide +kernel) (pa_cons
        (pe_lc (own := [("k", 3)]) (g := gName 3) (tt := tTest (tOp rEq (tOp (rIxT K) (tFld K (tVar 0) "hues") (tVar 3)) (tVar 2))) rfl sc_ladOf.nd (pi_tup (pe_op (r := rCatQ K) op_catQ (pe_ix (r := rIxT K) ix_tup (pe_fld (pe_fld (pv 0) rfl) rfl) (pv 1) (fun _ _ => rfl)) (pe_tup (pa_cons (pv 1) pa_nil)))) (blkOk_by (N := ["self", "c", "hue", "k"]) (sc := defScope (inClass (top 23) 1)) (by decide +kernel))
          (fun _ _ _ _ _ => pg_name (i := 3) sc_ladOf.nd rfl (Or.inl rfl)) (fun _ _ _ _ _ => ?tt)
          (fun _ _ _ _ _ => pv 3)) pa_nil)))))), ?_⟩
    case tt => exact pts_one (pt_cmpR (r := rEq) op_eq (pe_ix (r := rIxT K) ix_tup (pe_fld (pv 0) rfl) (pv 3) (fun _ _ => rfl)) (pv 2) (nomark _))
    obtain ⟨dq, ht, q1, q2, hw⟩ := hL
    refine ⟨_, rfl, q, Cl, dq, _, _, rfl, q1, TL.cl, TL.no _ (List.mem_of_getElem? (i := 0) rfl), rfl, _, rfl, p, natV c, "int", ds, rfl, hw, .int _, .inl ⟨whole_of hc, fun H1 s1 => ?_⟩⟩
    have e7 : wholeB (.int 0) (.int 7) (natV h) = true := whole_of (n := 8) h8
    refine ⟨_, rfl, natV h, .int 0, .int 7, "int", rfl, .int _, .inr ⟨_, rfl⟩, .inr ⟨_, rfl⟩, _, rfl, ?_⟩
    rw [e7]
    refine iteF' rfl ?_
    have hw1 := hw.mono s1
    obtain ⟨dx', fs', ae', es', t', p1, p2, p3, p4, p5⟩ := worldEld hw1 hc
    refine ⟨_, rfl, q, Cl, dq, _, _, rfl, s1 _ _ q1, TL.cl, TL.no _ (List.mem_of_getElem? (i := 0) rfl), rfl, p, C, dx', _, _, rfl, p1, TC.cl, TC.no _ (List.mem_of_getElem? (i := 4) rfl), p2, _, rfl, ae', es', (c : Int), _, rfl, rfl, SqT.of p3, atI_nat p4, _, rfl, (by show 1 ≤ sizeLine; decide), fun T hT => ?_⟩
    have sT := same_new (o := .tup [natV c]) hT
    obtain ⟨upk, lek⟩ := kin_props lok.ok hc
    have klen := kin_len lok.ok hc lok.few
    have size13 : 13 ≤ sizeLine := by decide
    have row_eq : ((elsOf ds).getD c []).map natV ++ [natV c] = ((kins (elsOf ds)).getD c []).map natV := by
      rw [kins_els hc, List.map_append]
      rfl
    have lenE : ((elsOf ds).getD c []).length ≤ 12 := by
      have := congrArg List.length row_eq
      rw [List.length_append, List.length_map, List.length_map, List.length_singleton] at this
      omega
    refine cat_q (ys := [natV c]) p5 upd_same (by rw [List.length_map]; show _ + 1 ≤ sizeLine; omega) sT fun a H3 s3 ha => ?_
    rw [row_eq] at ha
    have s13 := s1.trans s3
    generalize hrow : (kins (elsOf ds)).getD c [] = row at ha upk lek klen k
    refine ⟨a, rfl, ⟨_, SqT.of ha⟩, fun D hD => lc_tup (K := K) (a := a) (xs := row.map natV) (fun j H4 => Same H3 H4 ∧ H4 D = some (.lst ((ladH hs (row.take j) h).map natV))) ⟨same_new hD, upd_same⟩ (fun j H4 _ z => SqT.of (z.1 _ _ ha)) ?_ ?_⟩
    · rintro j y H4 hj ⟨s4, hD4⟩
      rw [List.getElem?_map] at hj
      obtain ⟨x, hx, rfl⟩ := Option.map_eq_some_iff.mp hj
      have xc := lek x (List.mem_of_getElem? hx)
      have xl : x < hs.length := by
        have := lok.len
        omega
      have s04 := s13.trans s4
      refine ⟨rfl, _, rfl, q, Cl, dq, _, _, rfl, s04 _ _ q1, TL.cl, TL.no _ (List.mem_of_getElem? (i := 1) rfl), rfl, _, rfl, ht, _, _, _, rfl, rfl, SqT.of (s04 _ _ q2), atI_nat (hue_at xl), _, rfl, hV_scal (hueOf hs x) (some h), _, rfl, ?_⟩
      have ed : decide (hV (hueOf hs x) = natV h) = (hueOf hs x == some h) := hV_eq (hueOf hs x) (some h)
      rw [ed]
      have hm := ladH_take (hs := hs) (h := h) hx
      cases c3 : (hueOf hs x == some h) with
      | true =>
        rw [c3, if_pos rfl] at hm
        refine iteT' rfl ⟨_, rfl, _, hD4, ?_, same_upd s4 hD, ?_⟩
        · rw [List.length_map]
          refine Nat.lt_of_le_of_lt (List.length_filter_le _ _) ?_
          rw [List.length_take]
          show _ < 2 ^ 24
          omega
        · rw [hm, List.map_append, upd_same]
          rfl
      | false =>
        rw [c3, if_neg (by decide), List.append_nil] at hm
        exact iteF' rfl ⟨s4, by rw [hm]; exact hD4⟩
    · rintro H4 ⟨s4, hD4⟩
      rw [List.length_map, List.take_length] at hD4
      exact tup_q (.inl hD4) fun t H5 s5 ht5 => k t H5 ((s13.trans s4).trans s5) ht5
/-! ### depth_of -/
def spDepOf (C Cl : Addr) : Sp := fun vs H Q _ => ∃ (q p : Addr) (ds : List Ent) (hs : List (Option Nat)) (x h : Nat), vs = [.ref q, natV x] ∧ LadAt H q Cl C p ds hs ∧ LadOk ds hs ∧ x < ds.length ∧ hueOf hs x = some h ∧
  ∀ H', Same H H' → Q (.int (depthI (kins (elsOf ds)) hs x)) H'
theorem hue_lt {hs : List (Option Nat)} (h8 : ∀ o ∈ hs, ∀ h, o = some h → h < 8) {x h : Nat} (e : hueOf hs x = some h) : h < 8 := by
  unfold hueOf at e
  rw [List.getD_eq_getElem?_getD] at e
  cases z : hs[x]? with
  | none =>
    rw [z] at e
    cases e
  | some o =>
    rw [z] at e
    exact h8 o (List.mem_of_getElem? z) h e
theorem sc_depOf : FnScope ["self", "target", "hue"] ["self", "target"] (defScope (inClass (top 23) 2)) := ⟨rfl, rfl, rfl, by decide +kernel, rfl, by decide +kernel, by decide +kernel⟩
theorem ok_depOf (F : FnM K "depth_of" "Ladders.depth_of" (inClass (top 23) 2) f fd) (B : Fr mg) (TC : ClsWorld K mg C) (TL : ClsF K Cl ["world", "hues"]) (FC : FnP K "check_class" 15 fC fdC) (mC : mg "check_class" = some (.ref fC)) (FW : FnDf K "is_whole" 12 [.non, .non] fW fdW) (mW : mg "is_whole" = some (.ref fW)) (FN : FnM K "__init__" "NoClass.__init__" (inClass (top 5) 0) fN fdN) (TN : ErrX K mg "NoClass" ["cls"] Cn fN)
    (ML : Meth K Cl "ladder_of" fL) (GL : FnOk P w K mg base CX0 4 fL fdL ["self", "c", "hue"] (spLadOf C Cl)) (bL : Binds K fdL ["self", "c", "hue"] []) :
    FnOk P w K mg base CX0 5 f fd ["self", "target"] (spDepOf C Cl) ∧ Binds K fd ["self", "target"] [] := by
  have GC : FnOk P w K mg base (L2.CX P w) 3 fC fdC ["world", "c"] (spCheck C Cn) := ok_check FC B TC FW mW FN TN
  have bC : L2.Binds K fdC ["world", "c"] [] := FC.bindsN fun _ _ _ _ _ _ us hl => match us, hl with | [_, _], _ => rfl
  refine ⟨F.ok sc_depOf (fun vs H Q E h => ?_) (fun cdv A outer s H vs Q E hr h => ?_), F.bindsN fun _ _ _ _ _ _ us hl => match us, hl with | [_, _], _ => rfl⟩
  · obtain ⟨q, p, ds, hs, x, h, rfl, _⟩ := h
    rfl
  · obtain ⟨q, p, ds, hs, x, h, rfl, hL, lok, hx, hh, k⟩ := h
    refine ⟨_, PSs.nox (pss_cons (ps_expr (pe_call GC (hr.mono (by decide)) (by rfl) mC FC.kp bC .nil (passOut (E := fun _ _ _ => False)) (pa_cons (pe_fld (pv 0) rfl) (pa_cons (pv 1) pa_nil))))
      (pss_cons (ps_set (i := 2) sc_depOf.nd rfl (Or.inl rfl) (pe_ix (r := rIxT K) ix_tup (pe_fld (pv 0) rfl) (pv 1) (fun _ _ => rfl)))
      (pss_cons (ps_if (pt_cmpR op_isN (pv 2) pe_non (nomark _)) (pss_one ps_never) pss_nil)
      (pss_one (ps_ret (pe_op op_sub (pe_callB call_len_seq (by rfl) B.len PySem.boot_len (pa_cons (pe_meth (pv 0) TL.cl ML GL hr bL .nil pass0 (pa_cons (pv 1) (pa_cons (pv 2) pa_nil))) pa_nil)) pe_int)))))), ?_⟩
    have hL0 := hL
    obtain ⟨dq, ht, q1, q2, hw⟩ := hL
    have h8 := hue_lt lok.hue hh
    have xl : x < hs.length := by rw [lok.len]; exact hx
    refine ⟨_, rfl, q, Cl, dq, _, _, rfl, q1, TL.cl, TL.no _ (List.mem_of_getElem? (i := 0) rfl), rfl, _, rfl, p, natV x, "int", ds, rfl, hw, .int _, .inl ⟨whole_of hx, fun H1 s1 => ?_⟩⟩
    have hat := hue_at xl
    rw [hh] at hat
    refine ⟨_, rfl, q, Cl, dq, _, _, rfl, s1 _ _ q1, TL.cl, TL.no _ (List.mem_of_getElem? (i := 1) rfl), rfl, _, rfl, ht, _, _, _, rfl, rfl, SqT.of (s1 _ _ q2), atI_nat hat, ?_⟩
    refine ⟨_, rfl, rfl, _, rfl, iteF' rfl ?_⟩
    refine ⟨_, rfl, q, dq, _, rfl, s1 _ _ q1, rfl, _, rfl, _, rfl, q, p, ds, hs, x, h, rfl, hL0.mono s1, lok, hx, h8, fun t H2 s2 ht2 => ?_⟩
    refine ⟨t, _, rfl, .inr (SqT.of ht2), _, _, rfl, rfl, ?_⟩
    rw [List.length_map, ← ladH_like hh]
    exact k H2 (s1.trans s2)
/-! ### one_look -/
def foundV (l : List Nat) (d : Nat) : V := match l[d]? with
  | some k => natV k
  | none => .non
def spLook (C Cl Ck : Addr) : Sp := fun vs H Q _ => ∃ (q p : Addr) (ds : List Ent) (hs : List (Option Nat)) (c x h d : Nat), vs = [.ref q, natV c, natV x] ∧ LadAt H q Cl C p ds hs ∧ LadOk ds hs ∧ c < ds.length ∧ x < ds.length ∧ hueOf hs x = some h ∧ depthI (kins (elsOf ds)) hs x = (d : Int) ∧
  ∀ a H', Same H H' → LookAt H' a Ck (natV h) (natV d) (foundV (ladH hs ((kins (elsOf ds)).getD c []) h) d) (.bl (decide (foundV (ladH hs ((kins (elsOf ds)).getD c []) h) d = natV x))) → Q (.ref a) H'
theorem sc_look : FnScope ["self", "c", "target", "place", "hue", "ladder", "found"] ["self", "c", "target"] (defScope (inClass (top 23) 3)) := ⟨rfl, rfl, rfl, by decide +kernel, rfl, by decide +kernel, by decide +kernel⟩
theorem ok_look (F : FnM K "one_look" "Ladders.one_look" (inClass (top 23) 3) f fd) (B : Fr mg) (TC : ClsWorld K mg C) (TL : ClsF K Cl ["world", "hues"]) (FC : FnP K "check_class" 15 fC fdC) (mC : mg "check_class" = some (.ref fC)) (FW : FnDf K "is_whole" 12 [.non, .non] fW fdW) (mW : mg "is_whole" = some (.ref fW)) (FN : FnM K "__init__" "NoClass.__init__" (inClass (top 5) 0) fN fdN) (TN : ErrX K mg "NoClass" ["cls"] Cn fN)
    (ML : Meth K Cl "ladder_of" fL) (GL : FnOk P w K mg base CX0 4 fL fdL ["self", "c", "hue"] (spLadOf C Cl)) (bL : Binds K fdL ["self", "c", "hue"] [])
    (MD : Meth K Cl "depth_of" fD) (GD : FnOk P w K mg base CX0 5 fD fdD ["self", "target"] (spDepOf C Cl)) (bD : Binds K fdD ["self", "target"] [])
    (MI : Mk K Ck fI) (mI : mg "Look" = some (.ref Ck)) (GI : FnOk P w K mg base CX0 1 fI fdI ["self", "hue", "place", "found", "answer"] (spLookI Ck)) (bI : Binds K fdI ["self", "hue", "place", "found", "answer"] []) :
    FnOk P w K mg base CX0 6 f fd ["self", "c", "target"] (spLook C Cl Ck) ∧ Binds K fd ["self", "c", "target"] [] := by
  have GC : FnOk P w K mg base (L2.CX P w) 3 fC fdC ["world", "c"] (spCheck C Cn) := ok_check FC B TC FW mW FN TN
  have bC : L2.Binds K fdC ["world", "c"] [] := FC.bindsN fun _ _ _ _ _ _ us hl => match us, hl with | [_, _], _ => rfl
  refine ⟨F.ok sc_look (fun vs H Q E h => ?_) (fun cdv A outer s H vs Q E hr h => ?_), F.bindsN fun _ _ _ _ _ _ us hl => match us, hl with | [_, _, _], _ => rfl⟩
  · obtain ⟨q, p, ds, hs, c, x, h, d, rfl, _⟩ := h
    rfl
  · obtain ⟨q, p, ds, hs, c, x, h, d, rfl, hL, lok, hc, hx, hh, hd, k⟩ := h
    refine ⟨_, PSs.nox (pss_cons (ps_expr (pe_call GC (hr.mono (by decide)) (by rfl) mC FC.kp bC .nil (passOut (E := fun _ _ _ => False)) (pa_cons (pe_fld (pv 0) rfl) (pa_cons (pv 1) pa_nil))))
      (pss_cons (ps_set (i := 3) sc_look.nd rfl (Or.inl rfl) (pe_meth (pv 0) TL.cl MD GD hr bD .nil pass0 (pa_cons (pv 2) pa_nil)))
      (pss_cons (ps_set (i := 4) sc_look.nd rfl (Or.inl rfl) (pe_ix (r := rIxT K) ix_tup (pe_fld (pv 0) rfl) (pv 2) (fun _ _ => rfl)))
      (pss_cons (ps_set (i := 5) sc_look.nd rfl (Or.inl rfl) (pe_meth (pv 0) TL.cl ML GL (hr.mono (by decide)) bL .nil pass0 (pa_cons (pv 1) (pa_cons (pv 4) pa_nil))))
      (pss_cons (ps_set (i := 6) sc_look.nd rfl (Or.inl rfl) (pe_ifExp (pt_cmpR op_lt (pv 3) (pe_callB call_len_seq (by rfl) B.len PySem.boot_len (pa_cons (pv 5) pa_nil)) (nomark _)) (pe_ix (r := rIxT K) ix_tup (pv 5) (pv 3) (fun _ _ => rfl)) pe_non))
      (pss_one (ps_ret (pe_make MI GI (hr.mono (by decide)) (by rfl) mI bI .nil pass0 (pa_cons (pv 4) (pa_cons (pv 3) (pa_cons (pv 6) (pa_cons (pe_cmpR op_eq (pv 6) (pv 2) (nomark _)) pa_nil)))))))))))), ?_⟩
    have hL0 := hL
    obtain ⟨dq, ht, q1, q2, hw⟩ := hL
    have h8 := hue_lt lok.hue hh
    have xl : x < hs.length := by rw [lok.len]; exact hx
    refine ⟨_, rfl, q, Cl, dq, _, _, rfl, q1, TL.cl, TL.no _ (List.mem_of_getElem? (i := 0) rfl), rfl, _, rfl, p, natV c, "int", ds, rfl, hw, .int _, .inl ⟨whole_of hc, fun H1 s1 => ?_⟩⟩
    refine ⟨_, rfl, q, dq, _, rfl, s1 _ _ q1, rfl, _, rfl, q, p, ds, hs, x, h, rfl, hL0.mono s1, lok, hx, hh, fun H2 s2 => ?_⟩
    rw [hd]
    have s12 := s1.trans s2
    have hat := hue_at xl
    rw [hh] at hat
    refine ⟨_, rfl, q, Cl, dq, _, _, rfl, s12 _ _ q1, TL.cl, TL.no _ (List.mem_of_getElem? (i := 1) rfl), rfl, _, rfl, ht, _, _, _, rfl, rfl, SqT.of (s12 _ _ q2), atI_nat hat, ?_⟩
    refine ⟨_, rfl, q, dq, _, rfl, s12 _ _ q1, rfl, _, rfl, _, rfl, q, p, ds, hs, c, h, rfl, hL0.mono s12, lok, hc, h8, fun t H3 s3 ht3 => ?_⟩
    generalize hl : ladH hs ((kins (elsOf ds)).getD c []) h = lad at k ht3
    have fin : ∀ v, v = foundV lad d → ((tRet (tMake Ck (spLookI Ck) [] (fun _ _ _ => False) (tCons (tVar 4) (tCons (tVar 3) (tCons (tVar 6) (tCons (tOp rEq (tVar 6) (tVar 2)) tNil)))))) { nx := fun _ H' => Q .non H', rt := Q } [some (.ref q), some (natV c), some (natV x), some (natV d), some (natV h), some (.ref t), some v] H3) := fun v ev => by
      have scv : scal v (natV x) = true := by
        rw [ev]
        unfold foundV
        cases lad[d]? <;> rfl
      refine ⟨_, rfl, _, rfl, _, rfl, _, rfl, _, rfl, scv, fun a dx ha hdx ne => ?_⟩
      have sA := (same_new (o := .own a) hdx).trans (same_new (o := .ins Ck dx []) (by rw [upd_ne (Ne.symm ne)]; exact ha))
      refine ⟨a, dx, _, _, _, _, rfl, upd_same, fun H4 O4 hA => ⟨rfl, ?_⟩⟩
      have s34 : Same H3 H4 := fun u o e => O4 _ _ (ne_of_none e ha) (sA _ _ e)
      refine k a H4 ((s12.trans s3).trans s34) ?_
      rw [← ev]
      exact hA
    refine ⟨_, rfl, _, rfl, t, _, rfl, .inr (SqT.of ht3), _, _, rfl, rfl, _, rfl, ?_⟩
    rw [List.length_map]
    by_cases q3 : d < lad.length
    · refine iteT' (decide_eq_true (by omega)) ⟨_, rfl, _, rfl, t, _, _, natV lad[d], rfl, rfl, SqT.of ht3, atI_nat (by rw [List.getElem?_map, List.getElem?_eq_getElem q3]; rfl), ?_⟩
      exact fin _ (by unfold foundV; rw [List.getElem?_eq_getElem q3])
    · refine iteF' (decide_eq_false (by omega)) ?_
      exact fin _ (by unfold foundV; rw [List.getElem?_eq_none (by omega)])
end
end K16

set_option maxRecDepth 100000
set_option maxHeartbeats 8000000
namespace K16
open PySem PySem.Spec PyProof.Rows L2 Kw
theorem els_app {ds : List Ent} {d : Ent} {c : Nat} (h : c < ds.length) : (elsOf (ds ++ [d])).getD c [] = (elsOf ds).getD c [] := by
  unfold elsOf
  have e : (List.map (·.1) (ds ++ [d])).take ds.length = ds.map (·.1) := by
    rw [List.map_append, List.take_append_of_le_length (by rw [List.length_map]; exact Nat.le_refl _), List.take_of_length_le (by rw [List.length_map]; exact Nat.le_refl _)]
  rw [← elders_getD_take (c := ds.length) h, e]
theorem els_fst {ds : List Ent} {d e : Ent} (h : d.1 = e.1) : elsOf (ds ++ [d]) = elsOf (ds ++ [e]) := by
  unfold elsOf
  rw [List.map_append, List.map_append, List.map_cons, List.map_cons, h]
theorem kins_app {ds : List Ent} {d : Ent} {c : Nat} (h : c < ds.length) : (kins (elsOf (ds ++ [d]))).getD c [] = (kins (elsOf ds)).getD c [] := by
  rw [kins_els (by rw [List.length_append]; omega), kins_els h, els_app h]
theorem hue_app {hs : List (Option Nat)} {o : Option Nat} {x : Nat} (h : x < hs.length) : hueOf (hs ++ [o]) x = hueOf hs x := by
  unfold hueOf
  rw [List.getD_eq_getElem?_getD, List.getD_eq_getElem?_getD, List.getElem?_append_left h]
theorem condL_hs {ks : List (List Nat)} {hs hs' : List (Option Nat)} {a b : Nat} (ha : hueOf hs' a = hueOf hs a) (hb : hueOf hs' b = hueOf hs b) : condL ks hs' a b = condL ks hs a b := by
  unfold condL
  rw [ha, hb]
theorem condL_ks {ks ks' : List (List Nat)} {hs : List (Option Nat)} {a b : Nat} (h : ks'.getD b [] = ks.getD b []) : condL ks' hs a b = condL ks hs a b := by
  unfold condL
  rw [h]
theorem least_none {c : Nat → Nat → Bool} {xs : List Nat} (h : Least c xs none) : ∀ a ∈ xs, ∀ b ∈ xs, c a b = false := by
  rcases h with ⟨_, h⟩ | ⟨_, _, z, _⟩
  · exact h
  · cases z
theorem firstC_none {ks : List (List Nat)} {hs : List (Option Nat)} (h : FirstC ks hs none) : ∀ c, c < ks.length → ∀ a ∈ ks.getD c [], ∀ b ∈ ks.getD c [], condL ks hs a b = false := by
  rcases h with ⟨_, h⟩ | ⟨_, _, _, z, _⟩
  · exact fun c hc => least_none (h c hc)
  · cases z
theorem kinsL {ds : List Ent} : (kins (elsOf ds)).length = ds.length := by rw [kins_len, elsOf_len]
theorem DsOk.kins {ds : List Ent} (ok : DsOk ds) : KinsOk (kins (elsOf ds)) := kins_ok ok.valid
theorem firstC_more {ds : List Ent} {d : Ent} {hs : List (Option Nat)} {o : Option Nat} (ok : DsOk (ds ++ [d])) (hl : hs.length = ds.length) (h : FirstC (kins (elsOf ds)) hs none) (hn : Least (condL (kins (elsOf (ds ++ [d]))) hs) ((elsOf (ds ++ [d])).getD ds.length []) none) : FirstC (kins (elsOf (ds ++ [d]))) (hs ++ [o]) none := by
  have h' := firstC_none h
  have kok := ok.kins
  refine .inl ⟨rfl, fun c hc => .inl ⟨rfl, fun a ha b hb => ?_⟩⟩
  rw [kinsL, List.length_append, List.length_singleton] at hc
  have ac := kok.le c (by rw [kinsL, List.length_append, List.length_singleton]; exact hc) a ha
  have bc := kok.le c (by rw [kinsL, List.length_append, List.length_singleton]; exact hc) b hb
  by_cases q : c < ds.length
  · rw [kins_app q] at ha hb
    rw [condL_hs (hue_app (by omega)) (hue_app (by omega)), condL_ks (kins_app (by omega))]
    exact h' c (by rw [kinsL]; exact q) a ha b hb
  · obtain rfl : c = ds.length := by omega
    by_cases qb : b = ds.length
    · cases e : condL (kins (elsOf (ds ++ [d]))) (hs ++ [o]) a b with
      | false => rfl
      | true =>
        have := (condL_iff.mp e).2.2.2
        rw [qb] at this
        exact absurd ha this
    · by_cases qa : a = ds.length
      · cases e : condL (kins (elsOf (ds ++ [d]))) (hs ++ [o]) a b with
        | false => rfl
        | true =>
          have := (condL_iff.mp e).1
          omega
      · rw [condL_hs (hue_app (by omega)) (hue_app (by omega))]
        rw [kins_els (by rw [List.length_append, List.length_singleton]; omega)] at ha hb
        refine least_none hn a ?_ b ?_
        · exact (List.mem_append.mp ha).resolve_right fun z => qa (List.mem_singleton.mp z)
        · exact (List.mem_append.mp hb).resolve_right fun z => qb (List.mem_singleton.mp z)
/-- one look tells -/
theorem look_iff {ks : List (List Nat)} (ok : KinsOk ks) {hs : List (Option Nat)} (h : FirstC ks hs none) {c x hu d : Nat} (hc : c < ks.length) (hx : x < ks.length) (hh : hueOf hs x = some hu) (hd : depthI ks hs x = (d : Int)) :
    (ladH hs (ks.getD c []) hu)[d]? = some x ↔ x ∈ ks.getD c [] := by
  have h' := firstC_none h
  constructor
  · intro e
    exact (mem_lad.mp (List.mem_of_getElem? e)).1
  · intro hxc
    have upL : (ladH hs (ks.getD c []) hu).Pairwise (· < ·) := List.Pairwise.filter _ (ok.up c hc)
    obtain ⟨i, hi⟩ := List.mem_iff_getElem?.mp (mem_lad.mpr ⟨hxc, hh⟩)
    have order : ∀ {m n y z : Nat}, (ladH hs (ks.getD c []) hu)[m]? = some y → (ladH hs (ks.getD c []) hu)[n]? = some z → m < n → y < z := fun hm hn l => by
      obtain ⟨m1, e1⟩ := List.getElem?_eq_some_iff.mp hm
      obtain ⟨n1, e2⟩ := List.getElem?_eq_some_iff.mp hn
      rw [← e1, ← e2]
      exact List.pairwise_iff_getElem.mp upL _ _ m1 n1 l
    have mem : ∀ y, y ∈ (ladH hs (ks.getD c []) hu).take (i + 1) ↔ y ∈ likeH hs (ks.getD x []) x := fun y => by
      constructor
      · intro hy
        obtain ⟨j, hj⟩ := List.mem_iff_getElem?.mp hy
        rw [List.getElem?_take] at hj
        split at hj
        · rename_i jl
          obtain ⟨y1, y2⟩ := mem_lad.mp (List.mem_of_getElem? hj)
          by_cases q : j = i
          · rw [q, hi] at hj
            obtain rfl := Option.some.inj hj
            exact mem_like.mpr ⟨ok.self x hx, rfl⟩
          · have yx := order hj hi (by omega)
            refine mem_like.mpr ⟨?_, by rw [y2, hh]⟩
            apply Classical.byContradiction
            intro z
            have := h' c hc y y1 x hxc
            rw [condL_iff.mpr ⟨yx, by rw [y2]; rfl, by rw [y2, hh], z⟩] at this
            cases this
        · cases hj
      · intro hy
        obtain ⟨y1, y2⟩ := mem_like.mp hy
        have yl := ok.le x hx y y1
        obtain ⟨j, hj⟩ := List.mem_iff_getElem?.mp (mem_lad.mpr ⟨ok.tr c hc x hxc y y1, y2.trans hh⟩)
        have ji : j < i + 1 := by
          apply Classical.byContradiction
          intro z
          have := order hi hj (by omega)
          omega
        exact List.mem_iff_getElem?.mpr ⟨j, by rw [List.getElem?_take, if_pos ji]; exact hj⟩
    have n1 : ((ladH hs (ks.getD c []) hu).take (i + 1)).Nodup := List.Nodup.sublist (List.take_sublist _ _) (up_nodup upL)
    have n2 : (likeH hs (ks.getD x []) x).Nodup := like_nodup (ok.up x hx)
    have l1 := nodup_sub_len' n1 fun y hy => (mem y).mp hy
    have l2 := nodup_sub_len' n2 fun y hy => (mem y).mpr hy
    have il := (List.getElem?_eq_some_iff.mp hi).1
    rw [List.length_take] at l1 l2
    unfold depthI at hd
    have : i = d := by omega
    rw [← this]
    exact hi
end K16

set_option maxRecDepth 100000
set_option maxHeartbeats 8000000
namespace K16
open PySem PySem.Spec PyProof.Rows L2 Kw
/-- couples of numbers as a list of tuples -/
def PairsAt (H : Hp) : List V → List (Nat × Nat) → Prop := Paired fun v p => ∃ t, v = .ref t ∧ H t = some (.tup [natV p.1, natV p.2])
theorem PairsAt.keep {H H' : Hp} {R : Addr} {us0 : List V} (hR : H R = some (.lst us0)) (s : Oth R H H') : ∀ {us : List V} {ps : List (Nat × Nat)}, PairsAt H us ps → PairsAt H' us ps
  | [], [], _ => .nil
  | _ :: _, _ :: _, .cons ⟨t, e, h⟩ r => .cons ⟨t, e, s _ _ (fun z => by rw [z, hR] at h; cases h) h⟩ (PairsAt.keep hR s r)
theorem PairsAt.same {H H' : Hp} (s : Same H H') : ∀ {us : List V} {ps : List (Nat × Nat)}, PairsAt H us ps → PairsAt H' us ps
  | [], [], _ => .nil
  | _ :: _, _ :: _, .cons ⟨t, e, h⟩ r => .cons ⟨t, e, s _ _ h⟩ (PairsAt.same s r)
theorem PairsAt.app {H : Hp} : ∀ {vs us : List V} {ls ms : List (Nat × Nat)}, PairsAt H vs ls → PairsAt H us ms → PairsAt H (vs ++ us) (ls ++ ms)
  | [], _, [], _, _, h => h
  | _ :: _, _, _ :: _, _, .cons h r, s => .cons h (PairsAt.app r s)
theorem PairsAt.len {H : Hp} {vs : List V} {ls : List (Nat × Nat)} (h : PairsAt H vs ls) : vs.length = ls.length := Paired.length h
def dPair (p : Nat × Nat) : PyData := .tuple [.int (p.1 : Int), .int (p.2 : Int)]
theorem dp_pairs {K : PySem.W.Frag} {H : Hp} : ∀ {us : List V} {ps : List (Nat × Nat)}, PairsAt H us ps → DpAll K H us (ps.map dPair)
  | [], [], _ => .nil
  | _ :: _, _ :: _, .cons ⟨t, e, h⟩ r => by
    rw [e]
    exact .cons (.tup (SqT.of h) (.cons (.int _) (.cons (.int _) .nil))) (dp_pairs r)
theorem lay_pair (p : Nat × Nat) : LayD 1 (dPair p) := LayD.tup fun d hd => by
  rcases List.mem_cons.mp hd with rfl | hd
  · exact .int _
  · rw [List.mem_singleton.mp hd]
    exact .int _
theorem LayD.lst {n : Nat} {ds : List PyData} (h : ∀ d ∈ ds, LayD n d) : LayD (n + 1) (.list ds) := by
  obtain ⟨h1, h2⟩ := lay_all h
  refine ⟨by simp [PyData.canLay0, h1], ?_⟩
  simp only [PyData.depth]
  omega
theorem lay_pairs (ps : List (Nat × Nat)) : LayD 2 (.list (ps.map dPair)) := LayD.lst fun d hd => by
  obtain ⟨p, _, rfl⟩ := List.mem_map.mp hd
  exact lay_pair p
theorem eqv_pair (p q : Nat × Nat) : PyData.eqv (dPair p) (dPair q) = decide (p = q) := by
  obtain ⟨a, b⟩ := p
  obtain ⟨c, d⟩ := q
  have e : PyData.eqv (dPair (a, b)) (dPair (c, d)) = (((a : Int) == (c : Int)) && (((b : Int) == (d : Int)) && true)) := by simp only [dPair, PyData.eqv, PyData.eqvAll]
  rw [e, Bool.eq_iff_iff, Bool.and_eq_true, Bool.and_true, beq_iff_eq, beq_iff_eq, decide_eq_true_eq]
  constructor
  · rintro ⟨h1, h2⟩
    rw [show a = c by omega, show b = d by omega]
  · intro h
    cases h
    exact ⟨rfl, rfl⟩
theorem any_pair (ps : List (Nat × Nat)) (q : Nat × Nat) : ((ps.map dPair).any fun z => PyData.eqv z (dPair q)) = decide (q ∈ ps) := by
  rw [Bool.eq_iff_iff, List.any_eq_true, decide_eq_true_eq]
  constructor
  · rintro ⟨z, hz, e⟩
    obtain ⟨p, hp, rfl⟩ := List.mem_map.mp hz
    rw [eqv_pair, decide_eq_true_eq] at e
    rw [← e]
    exact hp
  · intro h
    exact ⟨_, List.mem_map_of_mem h, by rw [eqv_pair, decide_eq_true_eq]⟩
/-- unlike classes not on one line that some class has both -/
def Rival (ks : List (List Nat)) (a b : Nat) : Prop := a < b ∧ b < ks.length ∧ a ∉ ks.getD b [] ∧ ∃ c, c < ks.length ∧ a ∈ ks.getD c [] ∧ b ∈ ks.getD c []
/-- couples in order -/
def SortP (ps : List (Nat × Nat)) : Prop := ps.Pairwise fun p q => p.1 < q.1 ∨ (p.1 = q.1 ∧ p.2 < q.2)
theorem SortP.snoc {ps : List (Nat × Nat)} {a b : Nat} (h : SortP ps) (z : ∀ p ∈ ps, p.1 < a ∨ (p.1 = a ∧ p.2 < b)) : SortP (ps ++ [(a, b)]) := by
  unfold SortP
  rw [List.pairwise_append]
  refine ⟨h, List.pairwise_singleton _ _, fun p hp q hq => ?_⟩
  rw [List.mem_singleton.mp hq]
  exact z p hp
theorem sortP_one : ∀ {ps qs : List (Nat × Nat)}, SortP ps → SortP qs → (∀ p, p ∈ ps ↔ p ∈ qs) → ps = qs
  | [], [], _, _, _ => rfl
  | [], q :: _, _, _, h => by have := (h q).mpr List.mem_cons_self; cases this
  | p :: _, [], _, _, h => by have := (h p).mp List.mem_cons_self; cases this
  | p :: ps, q :: qs, hp, hq, h => by
    obtain ⟨p1, p2⟩ := List.pairwise_cons.mp hp
    obtain ⟨q1, q2⟩ := List.pairwise_cons.mp hq
    have e : p = q := by
      have a := (h p).mp List.mem_cons_self
      have b := (h q).mpr List.mem_cons_self
      rcases List.mem_cons.mp a with a | a
      · exact a
      · rcases List.mem_cons.mp b with b | b
        · exact b.symm
        · have x := q1 p a
          have y := p1 q b
          omega
    subst e
    have np : p ∉ ps := fun z => by have := p1 p z; omega
    have nq : p ∉ qs := fun z => by have := q1 p z; omega
    rw [sortP_one p2 q2 fun r => ⟨fun hr => ?_, fun hr => ?_⟩]
    · rcases List.mem_cons.mp ((h r).mp (List.mem_cons_of_mem _ hr)) with e | e
      · rw [e] at hr
        exact (np hr).elim
      · exact e
    · rcases List.mem_cons.mp ((h r).mpr (List.mem_cons_of_mem _ hr)) with e | e
      · rw [e] at hr
        exact (nq hr).elim
      · exact e
section
variable {P : Program} {w : World} {K : PySem.W.Frag} {mg : Str → Option Value} {base : Heap} {f fK fT fM fPa : Addr} {fd fdK fdT fdM fdPa : FuncData}
def spPairs : Sp := fun vs H Q _ => ∃ (l : Addr) (us : List V) (ds : List Ent), vs = [.ref l] ∧ H l = some (.lst us) ∧ RwN l H us ds ∧ DsOk ds ∧ ds.length ≤ 12 ∧
  ∀ H' R ws ps, Same H H' → H R = none → H' R = some (.lst ws) → PairsAt H' ws ps → ps.length ≤ 1000 → (∀ a b, (a, b) ∈ ps ↔ Rival (kins (elsOf ds)) a b) → SortP ps → Q (.ref R) H'
theorem sc_pairs : FnScope ["_law_rows", "_law_kin_here", "_law_found", "_law_a", "_law_b", "_law_c"] ["_law_rows"] (defScope (top 55)) := ⟨rfl, rfl, rfl, by decide +kernel, rfl, by decide +kernel, by decide +kernel⟩
theorem ok_pairs (F : FnP K "_law_pairs" 55 f fd) (B : Fr mg) (FK : FnP K "_law_kin" 54 fK fdK) (mK : mg "_law_kin" = some (.ref fK)) (GK : FnOk P w K mg base CX0 2 fK fdK ["_law_rows"] spKin) :
    FnOk P w K mg base CX0 3 f fd ["_law_rows"] spPairs := by
  have bK : L2.Binds K fdK ["_law_rows"] [] := FK.bindsN fun _ _ _ _ _ _ us hl => match us, hl with | [_], _ => rfl
  refine F.ok sc_pairs (fun vs H Q E h => ?_) (fun cdv A outer s H vs Q E hr h => ?_)
  · obtain ⟨l, us, ds, rfl, _⟩ := h
    rfl
  · obtain ⟨l, us, ds, rfl, hl, hR, ok, h12, k⟩ := h
    refine ⟨_, PSs.nox (pss_cons (ps_set (i := 1) sc_pairs.nd rfl (Or.inr rfl) (pe_call GK hr (by rfl) mK FK.kp bK .nil pass0 (pa_cons (pv 0) pa_nil)))
      (pss_cons (ps_set (i := 2) sc_pairs.nd rfl (Or.inl rfl) (pe_lst pa_nil))
      (pss_cons (ps_for PassesOwn.never rfl (pi_range1 (by rfl) B.range (pa_cons (pe_callB call_len_seq (by rfl) B.len PySem.boot_len (pa_cons (pv 0) pa_nil)) pa_nil)) (pg_name (i := 3) sc_pairs.nd rfl (Or.inr rfl))
        (pss_one (ps_for PassesOwn.never rfl (pi_range2 (by rfl) B.range (pa_cons (pe_op op_add (pv 3) pe_int) (pa_cons (pe_callB call_len_seq (by rfl) B.len PySem.boot_len (pa_cons (pv 0) pa_nil)) pa_nil))) (pg_name (i := 4) sc_pairs.nd rfl (Or.inr rfl))
          (pss_one (ps_if (PW.pt (pw_and (pt_cmpR (r := rIn K true) op_notIn_seq (pv 3) (pe_ix (r := rIxL K) ix_list (pv 1) (pv 4) (fun _ _ => rfl)) (by rfl)) (pw_and1 (pt_truth
              (pe_lc (own := [("_law_c", 5)]) (g := gName 5) (tt := tAnd (tTest (tOp (rIn K false) (tVar 3) (tOp (rIxL K) (tVar 1) (tVar 5)))) (tTest (tOp (rIn K false) (tVar 4) (tOp (rIxL K) (tVar 1) (tVar 5))))) rfl sc_pairs.nd (pi_range1 (by rfl) B.range (pa_cons (pe_callB call_len_seq (by rfl) B.len PySem.boot_len (pa_cons (pv 0) pa_nil)) pa_nil)) (blkOk_by (N := ["_law_rows", "_law_kin_here", "_law_found", "_law_a", "_law_b", "_law_c"]) (sc := defScope (top 55)) (by decide +kernel))
                (fun _ _ _ _ _ => pg_name (i := 5) sc_pairs.nd rfl (Or.inl rfl)) (fun _ _ _ _ _ => ?tt) (fun _ _ _ _ _ => pv 5)) (by intro _; rfl)))))
            (pss_one (ps_expr (pe_bm PySem.F.plainAttrs_list PySem.F.slot_list_append PySem.F.type_list_append mt_append (pv 2) (pa_cons (pe_tup (pa_cons (pv 3) (pa_cons (pv 4) pa_nil))) pa_nil)))) pss_nil)))))
      (pss_one (ps_ret (pv 2)))))), ?_⟩
    case tt => exact pts_one (PW.pt (pw_and (pt_cmpR (r := rIn K false) op_in_seq (pv 3) (pe_ix (r := rIxL K) ix_list (pv 1) (pv 5) (fun _ _ => rfl)) (by rfl)) (pw_and1 (pt_cmpR (r := rIn K false) op_in_seq (pv 4) (pe_ix (r := rIxL K) ix_list (pv 1) (pv 5) (fun _ _ => rfl)) (by rfl)))))
    have usl : us.length = ds.length := hR.len
    refine ⟨_, rfl, l, us, ds.map (·.1), rfl, hl, hR.rows, ok.valid, by rw [List.length_map]; exact h12, fun row hr => by have := ok.short row hr; omega, fun H1 ak kus s1 hak hak1 hne hL => ?_⟩
    have kok : KinsOk (kins (elsOf ds)) := ok.kins
    have kl : (kins (elsOf ds)).length = ds.length := kinsL
    have hL : ListsAt H1 kus (kins (elsOf ds)) := hL
    generalize hks : kins (elsOf ds) = ks at hL kok kl k
    have krow : ∀ {c}, c < ds.length → ∃ row t, ks[c]? = some row ∧ ks.getD c [] = row ∧ kus[c]? = some (.ref t) ∧ H1 t = some (.lst (row.map natV)) := fun {c} hc => by
      obtain ⟨row, hrow⟩ : ∃ row, ks[c]? = some row := ⟨_, List.getElem?_eq_getElem (by omega)⟩
      obtain ⟨t, et, ht⟩ := hL.get hrow
      exact ⟨row, t, hrow, by rw [List.getD_eq_getElem?_getD, hrow]; rfl, et, ht⟩
    refine ⟨by decide, fun R hRn => ?_⟩
    have sR := same_new (o := .lst []) hRn
    have hR0 : H R = none := by
      cases e : H R with
      | none => rfl
      | some o =>
        rw [s1 _ _ e] at hRn
        cases hRn
    refine ⟨_, rfl, l, us, rfl, .inl (SqL.of (sR _ _ (s1 _ _ hl))), _, rfl, by omega, by omega, ?_⟩
    refine for_range (n := us.length) (fun i σ H' => Same H1 H' ∧ (∃ x3 x4 x5, σ = [some (.ref l), some (.ref ak), some (.ref R), x3, x4, x5]) ∧ ∃ ws ps, H' R = some (.lst ws) ∧ PairsAt H' ws ps ∧ ps.length ≤ 12 * i ∧ SortP ps ∧ ∀ a b, (a, b) ∈ ps ↔ Rival ks a b ∧ a < i)
      ⟨sR, ⟨_, _, _, rfl⟩, [], [], upd_same, .nil, Nat.le_refl _, .nil, fun a b => ⟨(fun h => by cases h), fun h => absurd h.2 (Nat.not_lt_zero _)⟩⟩ ?_ ?_
    · rintro i σ H' hi ⟨sH, ⟨x3, x4, x5, rfl⟩, ws, ps, hRw, hP, hpl, hso, hps⟩
      have ei : (0 : Int) + (i : Int) = (i : Int) := by omega
      rw [ei]
      have hl' := sH _ _ (s1 _ _ hl)
      refine ⟨_, rfl, _, _, rfl, rfl, _, rfl, l, us, rfl, .inl (SqL.of hl'), _, _, rfl, ⟨by omega, by omega, by omega, by omega⟩, ?_⟩
      refine for_range (lo := (i : Int) + 1) (n := (((us.length : Nat) : Int) - ((i : Int) + 1)).toNat) (fun j σ H' => Same H1 H' ∧ (∃ x4 x5, σ = [some (.ref l), some (.ref ak), some (.ref R), some (natV i), x4, x5]) ∧ ∃ ws ps, H' R = some (.lst ws) ∧ PairsAt H' ws ps ∧ ps.length ≤ 12 * i + j ∧ SortP ps ∧ ∀ a b, (a, b) ∈ ps ↔ Rival ks a b ∧ (a < i ∨ (a = i ∧ b < i + 1 + j)))
        ⟨sH, ⟨_, _, rfl⟩, ws, ps, hRw, hP, hpl, hso, fun a b => ?_⟩ ?_ ?_
      · rw [hps]
        refine and_congr_right fun hr => ⟨.inl, fun h => h.elim id fun h => ?_⟩
        have := hr.1
        omega
      · rintro j σ H2 hj ⟨s2, ⟨x4, x5, rfl⟩, ws, ps, hRw, hP, hpl, hso, hps⟩
        obtain ⟨b, eb, bn⟩ : ∃ b : Nat, (i : Int) + 1 + (j : Int) = (b : Int) ∧ b = i + 1 + j := ⟨i + 1 + j, by omega, rfl⟩
        rw [eb]
        have hbn : b < ds.length := by omega
        have hin : i < ds.length := by omega
        obtain ⟨rb, tb, _, gb, etb, htb⟩ := krow hbn
        have next : ∀ H3 x5, Same H1 H3 → ∀ ws ps, H3 R = some (.lst ws) → PairsAt H3 ws ps → ps.length ≤ 12 * i + (j + 1) → SortP ps → (∀ a b', (a, b') ∈ ps ↔ Rival ks a b' ∧ (a < i ∨ (a = i ∧ b' < i + 1 + (j + 1)))) → Same H1 H3 ∧ (∃ x4 x5', ([some (.ref l), some (.ref ak), some (.ref R), some (natV i), some (natV b), x5] : L2.St) = [some (.ref l), some (.ref ak), some (.ref R), some (natV i), x4, x5']) ∧ ∃ ws ps, H3 R = some (.lst ws) ∧ PairsAt H3 ws ps ∧ ps.length ≤ 12 * i + (j + 1) ∧ SortP ps ∧ ∀ a b', (a, b') ∈ ps ↔ Rival ks a b' ∧ (a < i ∨ (a = i ∧ b' < i + 1 + (j + 1))) := fun H3 x5 s3 ws ps h1 h2 h3 h5 h4 => ⟨s3, ⟨_, _, rfl⟩, ws, ps, h1, h2, h3, h5, h4⟩
        have skip : ¬ Rival ks i b → ∀ a b', (a, b') ∈ ps ↔ Rival ks a b' ∧ (a < i ∨ (a = i ∧ b' < i + 1 + (j + 1))) := fun hno a b' => by
          rw [hps]
          refine and_congr_right fun hr => ⟨fun h => h.imp id fun h => ⟨h.1, by omega⟩, fun h => h.imp id fun h => ⟨h.1, ?_⟩⟩
          apply Classical.byContradiction
          intro z
          have : b' = b := by omega
          rw [h.1, this] at hr
          exact hno hr
        have hak2 := s2 _ _ hak1
        refine ⟨_, rfl, _, rfl, _, rfl, ak, kus, (b : Int), _, rfl, rfl, SqL.of hak2, atI_nat etb, tb, _, rfl, .inl (SqL.of (s2 _ _ htb)), rfl, flat_nats rb, _, rfl, ?_⟩
        have ein : inV (natV i) (rb.map natV) = rb.contains i := inV_nat i rb
        show (if (!inV (natV i) (rb.map natV)) = true then _ else _)
        rw [ein]
        cases c1 : rb.contains i with
        | true =>
          refine iteF' rfl (next H2 _ s2 ws ps hRw hP (by omega) hso (skip fun hr => ?_))
          exact hr.2.2.1 (by rw [gb]; exact List.contains_iff_mem.mp c1)
        | false =>
          refine iteT' rfl ⟨_, rfl, l, us, rfl, .inl (SqL.of (s2 _ _ (s1 _ _ hl))), _, rfl, by omega, by omega, fun D hD => lc_range (n := us.length) (fun c H3 => Same H2 H3 ∧ H3 D = some (.lst (((List.range c).filter fun c => (ks.getD c []).contains i && (ks.getD c []).contains b).map natV))) ⟨same_new hD, upd_same⟩ ?_ ?_⟩
          · rintro c H3 hc ⟨s3, hD3⟩
            have ec : (0 : Int) + (c : Int) = (c : Int) := by omega
            rw [ec]
            obtain ⟨rc, tc, _, gc, etc, htc⟩ := krow (c := c) (by omega)
            have hak3 := s3 _ _ hak2
            have htc3 := s3 _ _ (s2 _ _ htc)
            have step : ((List.range (c + 1)).filter fun c => (ks.getD c []).contains i && (ks.getD c []).contains b) = ((List.range c).filter fun c => (ks.getD c []).contains i && (ks.getD c []).contains b) ++ (if (rc.contains i && rc.contains b) = true then [c] else []) := by
              rw [List.range_succ, List.filter_append]
              congr 1
              cases e : rc.contains i && rc.contains b with
              | true => rw [List.filter_cons_of_pos (by show ((ks.getD c []).contains i && (ks.getD c []).contains b) = true; rw [gc]; exact e)]; rfl
              | false => rw [List.filter_cons_of_neg (by show ¬ ((ks.getD c []).contains i && (ks.getD c []).contains b) = true; rw [gc, e]; decide)]; rfl
            have lenD : (((List.range c).filter fun c => (ks.getD c []).contains i && (ks.getD c []).contains b).map natV).length < sizeLine := by
              rw [List.length_map]
              refine Nat.lt_of_le_of_lt (List.length_filter_le _ _) ?_
              rw [List.length_range]
              show _ < 2 ^ 24
              omega
            refine ⟨rfl, _, rfl, _, rfl, _, rfl, ak, kus, (c : Int), _, rfl, rfl, SqL.of hak3, atI_nat etc, tc, _, rfl, .inl (SqL.of htc3), rfl, flat_nats rc, _, rfl, ?_⟩
            have e1 : inV (natV i) (rc.map natV) = rc.contains i := inV_nat i rc
            show (if inV (natV i) (rc.map natV) = true then _ else _)
            rw [e1]
            cases c2 : rc.contains i with
            | false =>
              rw [c2, Bool.false_and, if_neg (by decide), List.append_nil] at step
              exact iteF' rfl (iteF' rfl ⟨s3, by rw [step]; exact hD3⟩)
            | true =>
              rw [c2, Bool.true_and] at step
              refine iteT' rfl ⟨_, rfl, _, rfl, _, rfl, ak, kus, (c : Int), _, rfl, rfl, SqL.of hak3, atI_nat etc, tc, _, rfl, .inl (SqL.of htc3), rfl, flat_nats rc, _, rfl, ?_⟩
              have e2 : inV (natV b) (rc.map natV) = rc.contains b := inV_nat b rc
              show (if inV (natV b) (rc.map natV) = true then _ else _)
              rw [e2]
              cases c3 : rc.contains b with
              | true =>
                rw [c3, if_pos rfl] at step
                exact iteT' rfl ⟨_, rfl, _, hD3, lenD, same_upd s3 hD, by rw [step, List.map_append, upd_same]; rfl⟩
              | false =>
                rw [c3, if_neg (by decide), List.append_nil] at step
                exact iteF' rfl ⟨s3, by rw [step]; exact hD3⟩
          · rintro H3 ⟨s3, hD3⟩
            rw [usl] at hD3
            have riv : ((((List.range ds.length).filter fun c => (ks.getD c []).contains i && (ks.getD c []).contains b).map natV).isEmpty = false) ↔ Rival ks i b := by
              constructor
              · intro h
                have nn : ((List.range ds.length).filter fun c => (ks.getD c []).contains i && (ks.getD c []).contains b) ≠ [] := fun z => by
                  rw [z] at h
                  cases h
                obtain ⟨c, hc⟩ := List.exists_mem_of_ne_nil _ nn
                rw [List.mem_filter, List.mem_range, Bool.and_eq_true, List.contains_iff_mem, List.contains_iff_mem] at hc
                refine ⟨by omega, by omega, fun z => ?_, c, by omega, hc.2.1, hc.2.2⟩
                rw [gb] at z
                rw [List.contains_iff_mem.mpr z] at c1
                cases c1
              · rintro ⟨_, _, _, c, hc, h1, h2⟩
                have hm : c ∈ ((List.range ds.length).filter fun c => (ks.getD c []).contains i && (ks.getD c []).contains b) := by
                  rw [List.mem_filter, List.mem_range, Bool.and_eq_true, List.contains_iff_mem, List.contains_iff_mem]
                  exact ⟨by omega, h1, h2⟩
                cases e : ((List.range ds.length).filter fun c => (ks.getD c []).contains i && (ks.getD c []).contains b) with
                | nil =>
                  rw [e] at hm
                  cases hm
                | cons x r => rfl
            refine ⟨_, .inl ⟨_, SqL.of hD3, rfl⟩, ?_⟩
            have s13 := s2.trans s3
            cases c4 : (((List.range ds.length).filter fun c => (ks.getD c []).contains i && (ks.getD c []).contains b).map natV).isEmpty with
            | true => exact iteF' rfl (next H3 _ s13 ws ps (s3 _ _ hRw) (hP.same s3) (by omega) hso (skip fun hr => by rw [riv.mpr hr] at c4; cases c4))
            | false =>
              have hr := riv.mp c4
              refine iteT' rfl ⟨_, rfl, .inl ⟨rfl, _, SqL.of (s3 _ _ hRw)⟩, _, rfl, _, rfl, (by show 2 ≤ sizeLine; decide), fun T hT => ⟨R, ws, _, rfl, rfl, same_new hT _ _ (s3 _ _ hRw), ?_, ?_⟩⟩
              · rw [hP.len]
                show _ < 2 ^ 24
                omega
              · have sT := same_new (o := .tup [natV i, natV b]) hT
                have TR : T ≠ R := fun z => by
                  rw [z, s3 _ _ hRw] at hT
                  cases hT
                have rR := sT _ _ (s3 _ _ hRw)
                refine next _ _ (same_upd (s13.trans sT) hRn) (ws ++ [.ref T]) (ps ++ [(i, b)]) upd_same ?_ (by rw [List.length_append, List.length_singleton]; omega) (hso.snoc fun p hp => by have := (hps p.1 p.2).mp hp; omega) fun a b' => ?_
                · exact (PairsAt.keep rR (Oth.upd (Oth.of (Same.refl _))) ((hP.same s3).same sT)).app (.cons ⟨T, rfl, upB TR upd_same⟩ .nil)
                · rw [List.mem_append, List.mem_singleton, hps]
                  constructor
                  · rintro (h | h)
                    · exact ⟨h.1, h.2.imp id fun z => ⟨z.1, by omega⟩⟩
                    · cases h
                      exact ⟨hr, .inr ⟨rfl, by omega⟩⟩
                  · rintro ⟨h1, h2⟩
                    by_cases q : a = i ∧ b' = b
                    · right
                      rw [q.1, q.2]
                    · left
                      refine ⟨h1, h2.imp id fun z => ⟨z.1, ?_⟩⟩
                      have : b' ≠ b := fun y => q ⟨z.1, y⟩
                      omega
      · rintro σ H2 ⟨s2, ⟨x4, x5, rfl⟩, ws, ps, hRw, hP, hpl, hso, hps⟩
        refine ⟨s2, ⟨_, _, _, rfl⟩, ws, ps, hRw, hP, by omega, hso, fun a b => ?_⟩
        rw [hps]
        refine and_congr_right fun hr => ⟨fun h => by omega, fun h => ?_⟩
        have := hr.2.1
        by_cases q : a < i
        · exact .inl q
        · exact .inr ⟨by omega, by omega⟩
    · rintro σ H' ⟨sH, ⟨x3, x4, x5, rfl⟩, ws, ps, hRw, hP, hpl, hso, hps⟩
      refine ⟨_, rfl, k H' R ws ps (s1.trans sH) hR0 hRw hP (by omega) (fun a b => by
        rw [hps]
        exact ⟨fun h => h.1, fun h => ⟨h, by have h1 := h.1; have h2 := h.2.1; omega⟩⟩) hso⟩
end
end K16

set_option maxRecDepth 100000
set_option maxHeartbeats 8000000
namespace K16
open PySem PySem.Spec PyProof.Rows L2 Kw
theorem room65 {k : Nat} {A : Around} (r : Room k A) : A.units + 65 < cLine := by
  have := r.un
  omega
theorem inV_hue (c : Nat) : ∀ l : List (Option Nat), inV (natV c) (l.map hV) = decide (some c ∈ l)
  | [] => rfl
  | x :: r => by
    unfold inV
    rw [List.map_cons, List.any_cons]
    have ih := inV_hue c r
    unfold inV at ih
    rw [ih]
    have e : eqV (hV x) (natV c) = decide (x = some c) := by
      cases x with
      | none => rfl
      | some y =>
        show ((y : Int) == (c : Int)) = decide (some y = some c)
        rw [Bool.eq_iff_iff, beq_iff_eq, decide_eq_true_eq]
        exact ⟨fun h => by rw [show y = c by omega], fun h => by rw [Option.some.inj h]⟩
    rw [e, Bool.eq_iff_iff, Bool.or_eq_true, decide_eq_true_eq, decide_eq_true_eq, decide_eq_true_eq, List.mem_cons]
    exact ⟨fun h => h.imp (fun z => z.symm) id, fun h => h.imp (fun z => z.symm) id⟩
theorem flat_hues : ∀ l : List (Option Nat), (l.map hV).all flatV = true
  | [] => rfl
  | x :: r => by
    rw [List.map_cons, List.all_cons, flat_hues r]
    cases x <;> rfl
theorem nodup_sub_len'' {α : Type} [DecidableEq α] {ks ns : List α} (hn : ks.Nodup) (hs : ∀ k ∈ ks, k ∈ ns) : ks.length ≤ ns.length := Kw.nodup_sub_len hn hs
/-- hues so far: no rival below has the same one -/
def GoodH (ks : List (List Nat)) (hs : List (Option Nat)) : Prop := ∀ a b h, b < hs.length → Rival ks a b → hueOf hs b = some h → hueOf hs a ≠ some h
theorem good_first {ks : List (List Nat)} (ok : KinsOk ks) {hs : List (Option Nat)} (hl : hs.length = ks.length) (g : GoodH ks hs) : FirstC ks hs none := by
  refine .inl ⟨rfl, fun c hc => .inl ⟨rfl, fun a ha b hb => ?_⟩⟩
  cases e : condL ks hs a b with
  | false => rfl
  | true =>
    obtain ⟨lt, sa, he, no⟩ := condL_iff.mp e
    have bc := ok.le c hc b hb
    obtain ⟨h, hh⟩ := Option.isSome_iff_exists.mp sa
    exact absurd hh (g a b h (by omega) ⟨lt, by omega, no, c, hc, ha, hb⟩ (by rw [← he]; exact hh))
theorem GoodH.more {ks : List (List Nat)} {hs : List (Option Nat)} {o : Option Nat} (g : GoodH ks hs) (h : ∀ a h, Rival ks a hs.length → o = some h → hueOf hs a ≠ some h) : GoodH ks (hs ++ [o]) := fun a b x hb hr e => by
  rw [List.length_append, List.length_singleton] at hb
  have ab := hr.1
  rw [hue_app (by omega)]
  by_cases q : b < hs.length
  · rw [hue_app q] at e
    exact g a b x q hr e
  · obtain rfl : b = hs.length := by omega
    refine h a x hr ?_
    unfold hueOf at e
    rw [List.getD_eq_getElem?_getD, List.getElem?_append_right (Nat.le_refl _), Nat.sub_self] at e
    exact e
end K16

set_option maxRecDepth 100000
set_option maxHeartbeats 8000000
namespace K16
open PySem PySem.Spec PyProof.Rows L2 Kw
theorem likeH_take {hs : List (Option Nat)} {row : List Nat} {x j k : Nat} (hk : row[j]? = some k) : likeH hs (row.take (j + 1)) x = likeH hs (row.take j) x ++ (if (hueOf hs k == hueOf hs x) = true then [k] else []) := by
  unfold likeH
  rw [List.take_add_one, hk, Option.toList_some, List.filter_append]
  congr 1
  cases e : (hueOf hs k == hueOf hs x) with
  | true => rw [List.filter_cons_of_pos (by exact e)]; rfl
  | false => rw [List.filter_cons_of_neg (by rw [e]; decide)]; rfl
theorem KinH.row {H : Hp} {ak ah : Addr} {us : List V} {ks : List (List Nat)} {hs : List (Option Nat)} (h : KinH H ak ah us ks hs) {c : Nat} (hc : c < ks.length) : ∃ t, us[c]? = some (.ref t) ∧ H t = some (.lst ((ks.getD c []).map natV)) ∧ (ks.getD c []).length ≤ 12 ∧ ∀ x ∈ ks.getD c [], x < hs.length := by
  obtain ⟨h1, h2, h3, hl, h12, ok⟩ := h
  obtain ⟨row, hrow⟩ : ∃ row, ks[c]? = some row := ⟨_, List.getElem?_eq_getElem hc⟩
  have hgd : ks.getD c [] = row := by
    rw [List.getD_eq_getElem?_getD, hrow]
    rfl
  obtain ⟨t, et, ht⟩ := h2.get hrow
  refine ⟨t, et, by rw [hgd]; exact ht, ?_, fun x hx => by have := ok.le c hc x hx; omega⟩
  have h1 := nodup_sub_len' (ns := List.range 12) (up_nodup (ok.up c hc)) fun x hx => List.mem_range.mpr (by have := ok.le c hc x hx; omega)
  rw [List.length_range] at h1
  exact h1
section
variable {P : Program} {w : World} {K : PySem.W.Frag} {mg : Str → Option Value} {base : Heap} {f fE fD fLO fDO fLk fLR C Cn Cc Cl Cnl Ck Cb : Addr} {fd fdE fdD fdLO fdDO fdLk fdLR : FuncData}
def spLookR (Ck : Addr) : Sp := fun vs H Q _ => ∃ (lp ak ah : Addr) (us : List V) (ks : List (List Nat)) (hs : List (Option Nat)) (c x d h : Nat), vs = [.ref lp, .ref ak, .ref ah, natV c, natV x, natV d] ∧ KinH H ak ah us ks hs ∧ c < ks.length ∧ x < ks.length ∧ hueOf hs x = some h ∧
  LookAt H lp Ck (natV h) (natV d) (foundV (ladH hs (ks.getD c []) h) d) (.bl ((ks.getD c []).contains x)) ∧ ∀ H', Same H H' → Q (.bl true) H'
theorem sc_lookR : FnScope ["_law_look", "_law_kin_here", "_law_hues", "_law_c", "_law_target", "_law_place", "_law_ladder", "_law_one", "_law_found"] ["_law_look", "_law_kin_here", "_law_hues", "_law_c", "_law_target", "_law_place"] (defScope (top 62)) := ⟨rfl, rfl, rfl, by decide +kernel, rfl, by decide +kernel, by decide +kernel⟩
theorem ok_lookR (F : FnP K "_law_look_right" 62 f fd) (B : Fr mg) (TK : ClsF K Ck ["hue", "place", "found", "answer"]) (FE : FnP K "_law_exact" 53 fE fdE) (mE : mg "_law_exact" = some (.ref fE)) (GE : FnOk P w K mg base CX0 2 fE fdE ["_law_thing", "_law_due"] (spExact 0)) :
    FnOk P w K mg base CX0 3 f fd ["_law_look", "_law_kin_here", "_law_hues", "_law_c", "_law_target", "_law_place"] (spLookR Ck) := by
  have bE : L2.Binds K fdE ["_law_thing", "_law_due"] [] := FE.bindsN fun _ _ _ _ _ _ us hl => match us, hl with | [_, _], _ => rfl
  refine F.ok sc_lookR (fun vs H Q E h => ?_) (fun cdv A outer s H vs Q E hr h => ?_)
  · obtain ⟨lp, ak, ah, us, ks, hs, c, x, d, h, rfl, _⟩ := h
    rfl
  · obtain ⟨lp, ak, ah, us, ks, hs, c, x, d, h, rfl, hK, hc, hx, hh, hLk, k⟩ := h
    refine ⟨_, PSs.nox (pss_cons (ps_setLc (i := 6) (own := [("_law_one", 7)]) (g := gName 7) rfl sc_lookR.nd rfl rfl (sw_true rfl rfl rfl (by decide +kernel)) (pi_list (pe_ix (r := rIxL K) ix_list (pv 1) (pv 3) (fun _ _ => rfl))) (blkOk_by (N := ["_law_look", "_law_kin_here", "_law_hues", "_law_c", "_law_target", "_law_place", "_law_ladder", "_law_one", "_law_found"]) (sc := defScope (top 62)) (by decide +kernel))
          (fun _ _ _ _ _ => pg_name (i := 7) sc_lookR.nd rfl (Or.inl rfl)) (fun _ _ _ _ _ => pts_one (pt_cmpR (r := rEq) op_eq (pe_ix (r := rIxL K) ix_list (pv 2) (pv 7) (fun _ _ => rfl)) (pe_ix (r := rIxL K) ix_list (pv 2) (pv 4) (fun _ _ => rfl)) (nomark _)))
          (fun _ _ _ _ _ => pv 7))
      (pss_cons (ps_set (i := 8) sc_lookR.nd rfl (Or.inl rfl) (pe_ifExp (pt_cmpR op_lt (pv 5) (pe_callB call_len_seq (by rfl) B.len PySem.boot_len (pa_cons (pv 6) pa_nil)) (nomark _)) (pe_ix (r := rIxL K) ix_list (pv 6) (pv 5) (fun _ _ => rfl)) pe_non))
      (pss_cons (ps_if (PW.pt (pw_or (pt_not (pt_val (pe_call GE hr (by rfl) mE FE.kp bE .nil pass0 (pa_cons (pe_fld (pv 0) rfl) (pa_cons (pe_ix (r := rIxL K) ix_list (pv 2) (pv 4) (fun _ _ => rfl)) pa_nil))))) (pw_or1 (pt_not (pt_val (pe_call GE hr (by rfl) mE FE.kp bE .nil pass0 (pa_cons (pe_fld (pv 0) rfl) (pa_cons (pv 5) pa_nil)))))))) (pss_one (ps_ret pe_bl)) pss_nil)
      (pss_one (ps_ret (pe_and (pe_call GE hr (by rfl) mE FE.kp bE .nil pass0 (pa_cons (pe_fld (pv 0) rfl) (pa_cons (pv 8) pa_nil))) (pe_one (pe_call GE hr (by rfl) mE FE.kp bE .nil pass0 (pa_cons (pe_fld (pv 0) rfl) (pa_cons (pe_cmpR (r := rIn K false) op_in_seq (pv 4) (pe_ix (r := rIxL K) ix_list (pv 1) (pv 3) (fun _ _ => rfl)) (by rfl)) pa_nil)))))))))), ?_⟩
    have hK0 := hK
    obtain ⟨h1, h2, h3, hl, h12, kok⟩ := hK
    obtain ⟨t, et, ht, l12, hin⟩ := hK0.row hc
    obtain ⟨ldx, hlk⟩ := hLk
    have hhx := hue_at (hs := hs) (x := x) (by omega)
    generalize hrow : ks.getD c [] = row at ht l12 hin hlk
    refine ⟨_, rfl, _, rfl, ak, us, (c : Int), _, rfl, rfl, SqL.of h1, atI_nat et, t, rfl, ⟨_, SqL.of ht⟩, fun D hD => lc_list (K := K) (a := t) (xs := row.map natV) (fun j H3 => Same H H3 ∧ H3 D = some (.lst ((likeH hs (row.take j) x).map natV))) ⟨same_new hD, upd_same⟩ (fun j H3 _ z => SqL.of (z.1 _ _ ht)) ?_ ?_⟩
    · rintro j y H3 hj ⟨s3, hD3⟩
      rw [List.getElem?_map] at hj
      obtain ⟨k1, hk1, rfl⟩ := Option.map_eq_some_iff.mp hj
      have kl := hin k1 (List.mem_of_getElem? hk1)
      have h3' := s3 _ _ h3
      refine ⟨rfl, _, rfl, _, rfl, ah, _, _, _, rfl, rfl, SqL.of h3', atI_nat (hue_at kl), _, rfl, _, rfl, ah, _, _, _, rfl, rfl, SqL.of h3', atI_nat hhx, hV_scal _ _, _, rfl, ?_⟩
      rw [hV_eq]
      have hm := likeH_take (hs := hs) (x := x) hk1
      cases c3 : (hueOf hs k1 == hueOf hs x) with
      | true =>
        rw [c3, if_pos rfl] at hm
        refine iteT' rfl ⟨_, rfl, _, hD3, ?_, same_upd s3 hD, ?_⟩
        · rw [List.length_map]
          refine Nat.lt_of_le_of_lt (List.length_filter_le _ _) ?_
          rw [List.length_take]
          show _ < 2 ^ 24
          omega
        · rw [hm, List.map_append, upd_same]
          rfl
      | false =>
        rw [c3, if_neg (by decide), List.append_nil] at hm
        exact iteF' rfl ⟨s3, by rw [hm]; exact hD3⟩
    · rintro H3 ⟨s3, hD3⟩
      rw [List.length_map, List.take_length, ladH_like hh] at hD3
      generalize hlad : ladH hs row h = lad at hD3 hlk
      have hlk3 := s3 _ _ hlk
      have fin : ∀ v, v = foundV lad d → (tSeq (tIfS (tOr (tNot (tTest (tCall (spExact 0) [] (fun _ _ _ => False) (tCons (tFld K (tVar 0) "hue") (tCons (tOp (rIxL K) (tVar 2) (tVar 4)) tNil))))) (tNot (tTest (tCall (spExact 0) [] (fun _ _ _ => False) (tCons (tFld K (tVar 0) "place") (tCons (tVar 5) tNil)))))) (tRet (tC (.bl false))) tNext)
          (tRet (tAndV (tCall (spExact 0) [] (fun _ _ _ => False) (tCons (tFld K (tVar 0) "found") (tCons (tVar 8) tNil))) (tCall (spExact 0) [] (fun _ _ _ => False) (tCons (tFld K (tVar 0) "answer") (tCons (tOp (rIn K false) (tVar 4) (tOp (rIxL K) (tVar 1) (tVar 3))) tNil)))))) { nx := fun _ H' => Q .non H', rt := Q } [some (.ref lp), some (.ref ak), some (.ref ah), some (natV c), some (natV x), some (natV d), some (.ref D), none, some v] H3 := fun v ev => by
        have fv : Flat v := by
          rw [ev]
          unfold foundV
          cases lad[d]? <;> exact True.intro
        rw [hh] at hhx
        refine ⟨_, rfl, lp, Ck, ldx, _, _, rfl, hlk3, TK.cl, TK.no _ (List.mem_of_getElem? (i := 0) rfl), rfl, _, rfl, _, rfl, ah, _, _, _, rfl, rfl, SqL.of (s3 _ _ h3), atI_nat hhx, _, _, rfl, Exact.flat 0 True.intro, fun H4 s4 => ⟨_, rfl, iteF' rfl ?_⟩⟩
        refine ⟨_, rfl, lp, Ck, ldx, _, _, rfl, s4 _ _ hlk3, TK.cl, TK.no _ (List.mem_of_getElem? (i := 1) rfl), rfl, _, rfl, _, _, rfl, Exact.flat 0 True.intro, fun H5 s5 => ⟨_, rfl, iteF' rfl ?_⟩⟩
        have hlk5 := s5 _ _ (s4 _ _ hlk3)
        refine ⟨_, rfl, lp, Ck, ldx, _, _, rfl, hlk5, TK.cl, TK.no _ (List.mem_of_getElem? (i := 2) rfl), rfl, _, rfl, _, _, rfl, by rw [← ev]; exact Exact.flat 0 fv, fun H6 s6 => ⟨_, rfl, iteT' rfl ?_⟩⟩
        have s06 := ((s3.trans s4).trans s5).trans s6
        refine ⟨_, rfl, lp, Ck, ldx, _, _, rfl, s06 _ _ hlk, TK.cl, TK.no _ (List.mem_of_getElem? (i := 3) rfl), rfl, _, rfl, _, rfl, _, rfl, ak, us, (c : Int), _, rfl, rfl, SqL.of (s06 _ _ h1), atI_nat et, t, _, rfl, .inl (SqL.of (s06 _ _ ht)), rfl, flat_nats row, _, _, rfl, ?_, fun H7 s7 => k H7 (s06.trans s7)⟩
        have ein : inV (natV x) (row.map natV) = row.contains x := inV_nat x row
        show Exact _ 0 (V.bl (row.contains x)) (V.bl (inV (natV x) (row.map natV)))
        rw [ein]
        exact Exact.flat 0 True.intro
      refine ⟨_, rfl, _, rfl, D, _, rfl, .inl (SqL.of hD3), _, _, rfl, rfl, _, rfl, ?_⟩
      rw [List.length_map]
      by_cases q3 : d < lad.length
      · refine iteT' (decide_eq_true (by omega)) ⟨_, rfl, _, rfl, D, _, _, natV lad[d], rfl, rfl, SqL.of hD3, atI_nat (by rw [List.getElem?_map, List.getElem?_eq_getElem q3]; rfl), ?_⟩
        exact fin _ (by unfold foundV; rw [List.getElem?_eq_getElem q3])
      · refine iteF' (decide_eq_false (by omega)) ?_
        exact fin _ (by unfold foundV; rw [List.getElem?_eq_none (by omega)])
end
end K16

set_option maxRecDepth 100000
set_option maxHeartbeats 8000000
namespace K16
open PySem PySem.Spec PyProof.Rows L2 Kw
theorem foundV_iff {l : List Nat} {d x : Nat} : decide (foundV l d = natV x) = decide (l[d]? = some x) := by
  rw [Bool.eq_iff_iff, decide_eq_true_eq, decide_eq_true_eq]
  unfold foundV
  cases e : l[d]? with
  | none => exact ⟨(fun h => by cases h), fun h => by cases h⟩
  | some y =>
    constructor
    · intro h
      have := V.int.inj h
      rw [show y = x by omega]
    · intro h
      rw [Option.some.inj h]
section
variable {P : Program} {w : World} {K : PySem.W.Frag} {mg : Str → Option Value} {base : Heap} {f fE fD fLO fDO fLk fLR C Cn Cc Cl Cnl Ck Cb : Addr} {fd fdE fdD fdLO fdDO fdLk fdLR : FuncData}
def spTold (C Cl : Addr) : Sp := fun vs H Q _ => ∃ (q p ak ah : Addr) (us : List V) (ds : List Ent) (hs : List (Option Nat)), vs = [.ref q, .ref ak, .ref ah] ∧ LadAt H q Cl C p ds hs ∧ LadOk ds hs ∧ KinH H ak ah us (kins (elsOf ds)) hs ∧ FirstC (kins (elsOf ds)) hs none ∧ ∀ H', Same H H' → Q (.bl true) H'
theorem sc_told : FnScope ["_law_ladders", "_law_kin_here", "_law_hues", "_law_depths_here", "_law_c", "_law_hue", "_law_one", "_law_target"] ["_law_ladders", "_law_kin_here", "_law_hues"] (defScope (top 61)) := ⟨rfl, rfl, rfl, by decide +kernel, rfl, by decide +kernel, by decide +kernel⟩
theorem ok_told (F : FnP K "_law_told_right" 61 f fd) (B : Fr mg) (TL : ClsF K Cl ["world", "hues"]) (FE : FnP K "_law_exact" 53 fE fdE) (mE : mg "_law_exact" = some (.ref fE)) (GE : FnOk P w K mg base CX0 2 fE fdE ["_law_thing", "_law_due"] (spExact 0)) (GE1 : FnOk P w K mg base CX0 3 fE fdE ["_law_thing", "_law_due"] (spExact 1))
    (FD : FnP K "_law_depths" 58 fD fdD) (mD : mg "_law_depths" = some (.ref fD)) (GD : FnOk P w K mg base CX0 1 fD fdD ["_law_kin_here", "_law_hues"] spDepths)
    (MLO : Meth K Cl "ladder_of" fLO) (GLO : FnOk P w K mg base CX0 4 fLO fdLO ["self", "c", "hue"] (spLadOf C Cl)) (bLO : Binds K fdLO ["self", "c", "hue"] [])
    (MDO : Meth K Cl "depth_of" fDO) (GDO : FnOk P w K mg base CX0 5 fDO fdDO ["self", "target"] (spDepOf C Cl)) (bDO : Binds K fdDO ["self", "target"] [])
    (MLk : Meth K Cl "one_look" fLk) (GLk : FnOk P w K mg base CX0 6 fLk fdLk ["self", "c", "target"] (spLook C Cl Ck)) (bLk : Binds K fdLk ["self", "c", "target"] [])
    (FLR : FnP K "_law_look_right" 62 fLR fdLR) (mLR : mg "_law_look_right" = some (.ref fLR)) (GLR : FnOk P w K mg base CX0 3 fLR fdLR ["_law_look", "_law_kin_here", "_law_hues", "_law_c", "_law_target", "_law_place"] (spLookR Ck)) :
    FnOk P w K mg base CX0 7 f fd ["_law_ladders", "_law_kin_here", "_law_hues"] (spTold C Cl) := by
  have bE : L2.Binds K fdE ["_law_thing", "_law_due"] [] := FE.bindsN fun _ _ _ _ _ _ us hl => match us, hl with | [_, _], _ => rfl
  have bD : L2.Binds K fdD ["_law_kin_here", "_law_hues"] [] := FD.bindsN fun _ _ _ _ _ _ us hl => match us, hl with | [_, _], _ => rfl
  have bLR : L2.Binds K fdLR ["_law_look", "_law_kin_here", "_law_hues", "_law_c", "_law_target", "_law_place"] [] := FLR.bindsN fun _ _ _ _ _ _ us hl => match us, hl with | [_, _, _, _, _, _], _ => rfl
  refine F.ok sc_told (fun vs H Q E h => ?_) (fun cdv A outer s H vs Q E hr h => ?_)
  · obtain ⟨q, p, ak, ah, us, ds, hs, rfl, _⟩ := h
    rfl
  · obtain ⟨q, p, ak, ah, us, ds, hs, rfl, hL, lok, hK, hC, k⟩ := h
    refine ⟨_, PSs.nox (pss_cons (ps_set (i := 3) sc_told.nd rfl (Or.inl rfl) (pe_call GD (hr.mono (by decide)) (by rfl) mD FD.kp bD .nil pass0 (pa_cons (pv 1) (pa_cons (pv 2) pa_nil))))
      (pss_cons (ps_for PassesOwn.never rfl (pi_range1 (by rfl) B.range (pa_cons (pe_callB call_len_seq (by rfl) B.len PySem.boot_len (pa_cons (pv 1) pa_nil)) pa_nil)) (pg_name (i := 4) sc_told.nd rfl (Or.inl rfl))
        (pss_one (ps_for PassesOwn.never rfl (pi_range1 (by rfl) B.range (pa_cons pe_int pa_nil)) (pg_name (i := 5) sc_told.nd rfl (Or.inr rfl))
          (pss_one (ps_if (pt_not (pt_val (pe_call GE1 (hr.mono (by decide)) (by rfl) mE FE.kp bE .nil pass0 (pa_cons (pe_meth (pv 0) TL.cl MLO GLO (hr.mono (by decide)) bLO .nil pass0 (pa_cons (pv 4) (pa_cons (pv 5) pa_nil))) (pa_cons (pe_callTy (T := "tuple") (r := rTupOf K) (call_tup (X := _)) (by rfl) B.tuple (by decide +kernel) (pa_cons
              (pe_lc (own := [("_law_one", 6)]) (g := gName 6) (tt := tTest (tOp rEq (tOp (rIxL K) (tVar 2) (tVar 6)) (tVar 5))) rfl sc_told.nd (pi_list (pe_ix (r := rIxL K) ix_list (pv 1) (pv 4) (fun _ _ => rfl))) (blkOk_by (N := ["_law_ladders", "_law_kin_here", "_law_hues", "_law_depths_here", "_law_c", "_law_hue", "_law_one", "_law_target"]) (sc := defScope (top 61)) (by decide +kernel))
                (fun _ _ _ _ _ => pg_name (i := 6) sc_told.nd rfl (Or.inl rfl)) (fun _ _ _ _ _ => ?tt) (fun _ _ _ _ _ => pv 6)) pa_nil)) pa_nil))))) (pss_one (ps_ret pe_bl)) pss_nil)))))
      (pss_cons (ps_for PassesOwn.never rfl (pi_range1 (by rfl) B.range (pa_cons (pe_callB call_len_seq (by rfl) B.len PySem.boot_len (pa_cons (pv 1) pa_nil)) pa_nil)) (pg_name (i := 7) sc_told.nd rfl (Or.inl rfl))
        (pss_one (ps_if (pt_cmpR op_notN (pe_ix (r := rIxL K) ix_list (pv 2) (pv 7) (fun _ _ => rfl)) pe_non (nomark _))
          (pss_cons (ps_if (pt_not (pt_val (pe_call GE (hr.mono (by decide)) (by rfl) mE FE.kp bE .nil pass0 (pa_cons (pe_meth (pv 0) TL.cl MDO GDO (hr.mono (by decide)) bDO .nil pass0 (pa_cons (pv 7) pa_nil)) (pa_cons (pe_ix (r := rIxL K) ix_list (pv 3) (pv 7) (fun _ _ => rfl)) pa_nil))))) (pss_one (ps_ret pe_bl)) pss_nil)
          (pss_one (ps_for PassesOwn.never rfl (pi_range1 (by rfl) B.range (pa_cons (pe_callB call_len_seq (by rfl) B.len PySem.boot_len (pa_cons (pv 1) pa_nil)) pa_nil)) (pg_name (i := 4) sc_told.nd rfl (Or.inl rfl))
            (pss_one (ps_if (pt_not (pt_val (pe_call GLR (hr.mono (by decide)) (by rfl) mLR FLR.kp bLR .nil pass0 (pa_cons (pe_meth (pv 0) TL.cl MLk GLk hr bLk .nil pass0 (pa_cons (pv 4) (pa_cons (pv 7) pa_nil))) (pa_cons (pv 1) (pa_cons (pv 2) (pa_cons (pv 4) (pa_cons (pv 7) (pa_cons (pe_ix (r := rIxL K) ix_list (pv 3) (pv 7) (fun _ _ => rfl)) pa_nil))))))))) (pss_one (ps_ret pe_bl)) pss_nil))))) pss_nil)))
      (pss_one (ps_ret pe_bl))))), ?_⟩
    case tt => exact pts_one (pt_cmpR (r := rEq) op_eq (pe_ix (r := rIxL K) ix_list (pv 2) (pv 6) (fun _ _ => rfl)) (pv 5) (nomark _))
    have kl : (kins (elsOf ds)).length = ds.length := kinsL
    have n12 := lok.few
    have hsl := lok.len
    have hK0 := hK
    have hL0 := hL
    obtain ⟨h1, h2, h3, _, _, kok⟩ := hK
    have usl : us.length = ds.length := by rw [h2.len, kl]
    refine ⟨_, rfl, _, rfl, ak, ah, us, _, hs, rfl, hK0, fun dl H1 s1 hdl => ?_⟩
    refine ⟨_, rfl, ak, us, rfl, .inl (SqL.of (s1 _ _ h1)), _, rfl, by omega, by omega, ?_⟩
    refine for_range (n := us.length) (fun i σ H' => Same H1 H' ∧ ∃ x4 x5 x6 x7, σ = [some (.ref q), some (.ref ak), some (.ref ah), some (.ref dl), x4, x5, x6, x7]) ⟨Same.refl _, _, _, _, _, rfl⟩ ?_ ?_
    · rintro i σ H' hi ⟨sH, x4, x5, x6, x7, rfl⟩
      have ei : (0 : Int) + (i : Int) = (i : Int) := by omega
      rw [ei]
      have hid : i < ds.length := by omega
      refine ⟨8, rfl, by decide, by decide, ?_⟩
      refine for_range (n := 8) (fun j σ H2 => Same H1 H2 ∧ ∃ x5 x6 x7, σ = [some (.ref q), some (.ref ak), some (.ref ah), some (.ref dl), some (natV i), x5, x6, x7]) ⟨sH, _, _, _, rfl⟩ ?_ ?_
      · rintro j σ H2 hj ⟨s2, x5, x6, x7, rfl⟩
        have ej : (0 : Int) + (j : Int) = (j : Int) := by omega
        rw [ej]
        have s02 := s1.trans s2
        have hL2 := hL0.mono s02
        have hL2' := hL2
        obtain ⟨dq, ht, q1, q2, hw⟩ := hL2'
        refine ⟨_, rfl, q, dq, _, rfl, q1, rfl, _, rfl, _, rfl, q, p, ds, hs, i, j, rfl, hL2, lok, hid, hj, fun t1 H3 s3 ht1 => ?_⟩
        have hK3 := hK0.same (s02.trans s3)
        obtain ⟨t, et, htr, l12, hin⟩ := hK3.row (c := i) (by omega)
        obtain ⟨g1, g2, g3, _⟩ := hK3
        generalize hrow : (kins (elsOf ds)).getD i [] = row at ht1 htr l12 hin
        refine ⟨_, rfl, _, rfl, ak, us, (i : Int), _, rfl, rfl, SqL.of g1, atI_nat et, t, rfl, ⟨_, SqL.of htr⟩, fun D hD => lc_list (K := K) (a := t) (xs := row.map natV) (fun m H4 => Same H3 H4 ∧ H4 D = some (.lst ((ladH hs (row.take m) j).map natV))) ⟨same_new hD, upd_same⟩ (fun m H4 _ z => SqL.of (z.1 _ _ htr)) ?_ ?_⟩
        · rintro m y H4 hm ⟨s4, hD4⟩
          rw [List.getElem?_map] at hm
          obtain ⟨k1, hk1, rfl⟩ := Option.map_eq_some_iff.mp hm
          have kl1 := hin k1 (List.mem_of_getElem? hk1)
          refine ⟨rfl, _, rfl, _, rfl, ah, _, _, _, rfl, rfl, SqL.of (s4 _ _ g3), atI_nat (hue_at kl1), _, rfl, hV_scal (hueOf hs k1) (some j), _, rfl, ?_⟩
          have ed : decide (hV (hueOf hs k1) = natV j) = (hueOf hs k1 == some j) := hV_eq (hueOf hs k1) (some j)
          show (if decide (hV (hueOf hs k1) = natV j) = true then _ else _)
          rw [ed]
          have hmm := ladH_take (hs := hs) (h := j) hk1
          cases c3 : (hueOf hs k1 == some j) with
          | true =>
            rw [c3, if_pos rfl] at hmm
            refine iteT' rfl ⟨_, rfl, _, hD4, ?_, same_upd s4 hD, ?_⟩
            · rw [List.length_map]
              refine Nat.lt_of_le_of_lt (List.length_filter_le _ _) ?_
              rw [List.length_take]
              show _ < 2 ^ 24
              omega
            · rw [hmm, List.map_append, upd_same]
              rfl
          | false =>
            rw [c3, if_neg (by decide), List.append_nil] at hmm
            exact iteF' rfl ⟨s4, by rw [hmm]; exact hD4⟩
        · rintro H4 ⟨s4, hD4⟩
          rw [List.length_map, List.take_length] at hD4
          refine tup_q (.inl hD4) fun t2 H5 s5 ht2 => ?_
          have llen : (ladH hs row j).length ≤ 12 := Nat.le_trans (List.length_filter_le _ _) l12
          refine ⟨_, _, rfl, Exact.tup 0 (s5 _ _ (s4 _ _ ht1)) ht2 (fun x hx => by obtain ⟨n, _, rfl⟩ := List.mem_map.mp hx; exact True.intro) (by rw [List.length_map]; omega), fun H6 s6 => ⟨_, rfl, iteF' rfl ⟨((((s2.trans s3).trans s4).trans s5).trans s6), _, _, _, rfl⟩⟩⟩
      · rintro σ H2 ⟨s2, x5, x6, x7, rfl⟩
        exact ⟨s2, _, _, _, _, rfl⟩
    · rintro σ H2 ⟨s2, x4, x5, x6, x7, rfl⟩
      refine ⟨_, rfl, ak, us, rfl, .inl (SqL.of (s2 _ _ (s1 _ _ h1))), _, rfl, by omega, by omega, ?_⟩
      refine for_range (n := us.length) (fun i σ H' => Same H1 H' ∧ ∃ x4 x5 x6 x7, σ = [some (.ref q), some (.ref ak), some (.ref ah), some (.ref dl), x4, x5, x6, x7]) ⟨s2, _, _, _, _, rfl⟩ ?_ ?_
      · rintro x σ H' hx ⟨sH, x4, x5, x6, x7, rfl⟩
        have ei : (0 : Int) + (x : Int) = (x : Int) := by omega
        rw [ei]
        have hxd : x < ds.length := by omega
        have xl : x < hs.length := by omega
        have s0H := s1.trans sH
        have hat := hue_at xl
        have edep : (depthsOf (kins (elsOf ds)) hs)[x]? = some (depthI (kins (elsOf ds)) hs x) := by
          unfold depthsOf
          rw [List.getElem?_map, List.getElem?_range (by omega)]
          rfl
        have edv : ((depthsOf (kins (elsOf ds)) hs).map V.int)[x]? = some (V.int (depthI (kins (elsOf ds)) hs x)) := by rw [List.getElem?_map, edep]; rfl
        obtain ⟨d, hd⟩ : ∃ d : Nat, depthI (kins (elsOf ds)) hs x = (d : Int) := by
          have : 0 < (likeH hs ((kins (elsOf ds)).getD x []) x).length := List.length_pos_of_mem (mem_like.mpr ⟨kok.self x (by omega), rfl⟩)
          exact ⟨(likeH hs ((kins (elsOf ds)).getD x []) x).length - 1, by unfold depthI; omega⟩
        refine ⟨_, rfl, _, rfl, ah, _, _, _, rfl, rfl, SqL.of (s0H _ _ h3), atI_nat hat, rfl, _, rfl, ?_⟩
        rw [hV_non]
        cases hh : hueOf hs x with
        | none => exact iteF' rfl ⟨sH, _, _, _, _, rfl⟩
        | some h =>
          have hLH := hL0.mono s0H
          have hLH' := hLH
          obtain ⟨dq, ht, q1, q2, hw⟩ := hLH'
          refine iteT' rfl ⟨_, rfl, q, dq, _, rfl, q1, rfl, _, rfl, q, p, ds, hs, x, h, rfl, hLH, lok, hxd, hh, fun H3 s3 => ?_⟩
          have hdl3 := s3 _ _ (sH _ _ hdl)
          refine ⟨_, rfl, _, rfl, dl, _, _, _, rfl, rfl, SqL.of hdl3, atI_nat edv, _, _, rfl, Exact.flat 0 True.intro, fun H4 s4 => ⟨_, rfl, iteF' rfl ?_⟩⟩
          have s14 := (sH.trans s3).trans s4
          refine ⟨_, rfl, ak, us, rfl, .inl (SqL.of (s14 _ _ (s1 _ _ h1))), _, rfl, by omega, by omega, ?_⟩
          refine for_range (n := us.length) (fun j σ H' => Same H1 H' ∧ ∃ x4 x5 x6, σ = [some (.ref q), some (.ref ak), some (.ref ah), some (.ref dl), x4, x5, x6, some (natV x)]) ⟨s14, _, _, _, rfl⟩ ?_ ?_
          · rintro c σ H5 hc ⟨s5, x4, x5, x6, rfl⟩
            have ec : (0 : Int) + (c : Int) = (c : Int) := by omega
            rw [ec]
            have hcd : c < ds.length := by omega
            have s05 := s1.trans s5
            have hL5 := hL0.mono s05
            have hL5' := hL5
            obtain ⟨dq5, ht5, q15, q25, hw5⟩ := hL5'
            refine ⟨_, rfl, q, dq5, _, rfl, q15, rfl, _, rfl, _, rfl, q, p, ds, hs, c, x, h, d, rfl, hL5, lok, hcd, hxd, hh, hd, fun la H6 s6 hLk => ?_⟩
            rw [foundV_iff] at hLk
            have iff := look_iff kok hC (c := c) (x := x) (by omega) (by omega) hh hd
            have eb : decide ((ladH hs ((kins (elsOf ds)).getD c []) h)[d]? = some x) = ((kins (elsOf ds)).getD c []).contains x := by
              rw [Bool.eq_iff_iff, decide_eq_true_eq, List.contains_iff_mem]
              exact iff
            rw [eb] at hLk
            have hdl6 := s6 _ _ (s5 _ _ hdl)
            refine ⟨_, rfl, _, rfl, _, rfl, _, rfl, _, rfl, _, rfl, dl, _, _, _, rfl, rfl, SqL.of hdl6, atI_nat edv, ?_⟩
            rw [hd]
            exact ⟨la, ak, ah, us, _, hs, c, x, d, h, rfl, hK0.same (s05.trans s6), by omega, by omega, hh, hLk, fun H7 s7 => ⟨_, rfl, iteF' rfl ⟨(s5.trans s6).trans s7, _, _, _, rfl⟩⟩⟩
          · rintro σ H5 ⟨s5, x4, x5, x6, rfl⟩
            exact ⟨s5, _, _, _, _, rfl⟩
      · rintro σ H3 ⟨s3, x4, x5, x6, x7, rfl⟩
        exact k H3 (s1.trans s3)
end
end K16

set_option maxRecDepth 100000
set_option maxHeartbeats 8000000
namespace K16
open PySem PySem.Spec PyProof.Rows L2 Kw
/-! ### min of a list of lists or tuples of numbers -/
def dR (tup : Bool) (r : List Nat) : PyData := if tup = true then .tuple (r.map fun (n : Nat) => .int (n : Int)) else .list (r.map fun (n : Nat) => .int (n : Int))
def toksN (r : List Nat) : List (Int ⊕ List Nat) := PySem.W.keyToksAll (r.map fun (n : Nat) => .int (n : Int))
theorem keyToks_dR (tup : Bool) (r : List Nat) : PySem.W.keyToks (dR tup r) = toksN r := by
  unfold dR toksN
  cases tup <;> simp [PySem.W.keyToks]
theorem alike_ints : ∀ (r s : List Nat), PySem.W.alikeAll (r.map fun (n : Nat) => PyData.int (n : Int)) (s.map fun (n : Nat) => PyData.int (n : Int)) = true
  | [], [] => by simp [PySem.W.alikeAll]
  | [], _ :: _ => by simp [PySem.W.alikeAll]
  | _ :: _, [] => by simp [PySem.W.alikeAll]
  | a :: r, b :: s => by
    rw [List.map_cons, List.map_cons, PySem.W.alikeAll, alike_ints r s]
    simp [PySem.W.alike]
theorem alike_dR (tup : Bool) (r s : List Nat) : PySem.W.alike (dR tup r) (dR tup s) = true := by
  unfold dR
  cases tup
  · show PySem.W.alike (.list _) (.list _) = true
    rw [PySem.W.alike]
    exact alike_ints r s
  · show PySem.W.alike (.tuple _) (.tuple _) = true
    rw [PySem.W.alike]
    exact alike_ints r s
theorem dR_inj {tup : Bool} : ∀ {r s : List Nat}, dR tup r = dR tup s → r = s := by
  intro r s h
  have e : (r.map fun (n : Nat) => PyData.int (n : Int)) = s.map fun (n : Nat) => PyData.int (n : Int) := by
    unfold dR at h
    cases tup
    · exact PyData.list.inj h
    · exact PyData.tuple.inj h
  refine List.map_inj_right (f := fun (n : Nat) => PyData.int (n : Int)) (fun a b h => ?_) |>.mp e
  have := PyData.int.inj h
  omega
theorem lt_toks : ∀ (r s : List Nat), PyProof.Rows.lexLt itemOrd (toksN r) (toksN s) = lx r s
  | [], [] => by
    unfold toksN
    simp only [List.map_nil]
    rw [PySem.W.keyToksAll]
    decide
  | [], b :: s => by
    unfold toksN
    rw [List.map_nil, List.map_cons, PySem.W.toks_all_cons, PySem.W.keyToksAll, PySem.W.lex_atom (by simp)]
    show _ = true
    decide
  | a :: r, [] => by
    unfold toksN
    rw [List.map_nil, List.map_cons, PySem.W.toks_all_cons, PySem.W.keyToksAll, PySem.W.lex_atom (by simp)]
    show _ = false
    decide
  | a :: r, b :: s => by
    have ha : PySem.W.alike (.int (a : Int)) (.int (b : Int)) = true := by simp [PySem.W.alike]
    unfold toksN
    rw [List.map_cons, List.map_cons]
    cases e : PyData.eqv (.int (a : Int)) (.int (b : Int)) with
    | true =>
      rw [PySem.W.dataLt_all_yes ha e]
      have z : a = b := by
        have : ((a : Int) == (b : Int)) = true := by simpa only [PyData.eqv] using e
        have := beq_iff_eq.mp this
        omega
      have ih := lt_toks r s
      unfold toksN at ih
      rw [ih, z]
      simp [lx]
    | false =>
      rw [PySem.W.dataLt_all_no ha e, PySem.W.dataLt_int]
      have z : a ≠ b := by
        intro z
        have : ((a : Int) == (b : Int)) = false := by simpa only [PyData.eqv] using e
        rw [z] at this
        simp at this
      rw [Bool.eq_iff_iff, lx_cons, decide_eq_true_eq]
      constructor
      · intro h
        exact .inl (by omega)
      · rintro (h | h)
        · omega
        · exact (z h.1).elim
theorem lt_dR (tup : Bool) (r s : List Nat) : PySem.W.dataLt (dR tup r) (dR tup s) = lx r s := by
  unfold PySem.W.dataLt
  rw [keyToks_dR, keyToks_dR, lt_toks]
def minL (r : List Nat) (rs : List (List Nat)) : List Nat := rs.foldl (fun a y => if lx y a = true then y else a) r
theorem minD_dR (tup : Bool) : ∀ (rs : List (List Nat)) (r : List Nat), PySem.W.minD (dR tup r) (rs.map (dR tup)) = dR tup (minL r rs)
  | [], r => rfl
  | s :: rs, r => by
    show PySem.W.minD (if PySem.W.dataLt (dR tup s) (dR tup r) = true then dR tup s else dR tup r) (rs.map (dR tup)) = dR tup (minL (if lx s r = true then s else r) rs)
    rw [lt_dR]
    cases c : lx s r with
    | true => exact minD_dR tup rs s
    | false => exact minD_dR tup rs r
theorem minL_spec : ∀ (rs : List (List Nat)) (r : List Nat), minL r rs ∈ r :: rs ∧ ∀ y ∈ r :: rs, lx y (minL r rs) = false
  | [], r => ⟨List.mem_cons_self, fun y hy => by rw [List.mem_singleton.mp hy]; exact lx_refl _⟩
  | s :: rs, r => by
    show minL (if lx s r = true then s else r) rs ∈ _ ∧ ∀ y ∈ _, lx y (minL (if lx s r = true then s else r) rs) = false
    cases c : lx s r with
    | true =>
      rw [if_pos rfl]
      obtain ⟨h1, h2⟩ := minL_spec rs s
      refine ⟨List.mem_cons_of_mem _ h1, fun y hy => ?_⟩
      rcases List.mem_cons.mp hy with rfl | hy
      · cases d : lx y (minL s rs) with
        | false => rfl
        | true =>
          have := lx_trans c d
          rw [h2 s List.mem_cons_self] at this
          cases this
      · exact h2 y hy
    | false =>
      rw [if_neg (by decide)]
      obtain ⟨h1, h2⟩ := minL_spec rs r
      refine ⟨?_, fun y hy => ?_⟩
      · rcases List.mem_cons.mp h1 with h1 | h1
        · rw [h1]
          exact List.mem_cons_self
        · exact List.mem_cons_of_mem _ (List.mem_cons_of_mem _ h1)
      · rcases List.mem_cons.mp hy with rfl | hy
        · exact h2 y List.mem_cons_self
        · rcases List.mem_cons.mp hy with rfl | hy
          · cases d : lx y (minL r rs) with
            | false => rfl
            | true =>
              -- y before the least, r not behind y
              have q : lx r (minL r rs) = false := h2 r List.mem_cons_self
              by_cases e : r = y
              · rw [← e, q] at d
                cases d
              · cases x : lx r y with
                | true =>
                  have := lx_trans x d
                  rw [q] at this
                  cases this
                | false => exact (e (lx_anti x c)).elim
          · exact h2 y (List.mem_cons_of_mem _ hy)
theorem depth_ints : ∀ r : List Nat, PyData.depthAll (r.map fun (n : Nat) => PyData.int (n : Int)) = 0
  | [] => by simp [PyData.depthAll]
  | a :: r => by
    rw [List.map_cons, PyData.depthAll, depth_ints r]
    simp [PyData.depth]
theorem depth_dR (tup : Bool) (r : List Nat) : (dR tup r).depth ≤ 1 := by
  unfold dR
  cases tup
  · show (PyData.list _).depth ≤ 1
    rw [PyData.depth, depth_ints]
    exact Nat.le_refl _
  · show (PyData.tuple _).depth ≤ 1
    rw [PyData.depth, depth_ints]
    exact Nat.le_refl _
theorem depthAll_dR (tup : Bool) : ∀ rs : List (List Nat), PyData.depthAll (rs.map (dR tup)) ≤ 1
  | [] => by simp [PyData.depthAll]
  | r :: rs => by
    rw [List.map_cons, PyData.depthAll]
    have := depth_dR tup r
    have := depthAll_dR tup rs
    omega
theorem vals_at {us : List V} {its : List Value} (h : Vals us its) (i : Nat) (v : Value) (hv : its[i]? = some v) : ∃ u, us[i]? = some u ∧ RelV u v := by
  have h : Paired RelV us its := h
  induction h generalizing i with
  | nil => cases hv
  | cons r _ ih =>
    cases i with
    | zero =>
      obtain rfl := Option.some.inj hv
      exact ⟨_, rfl, r⟩
    | succ i => exact ih (by assumption) i hv
/-- min(xs), xs a list of lists (or of tuples) of whole numbers: one that none stands before -/
def rMinN (K : PySem.W.Frag) (tup : Bool) : List V → Hp → VK → Prop := fun vs H Q => ∃ (a : Addr) (us : List V) (rows : List (List Nat)), vs = [.ref a] ∧ SqL K H a us ∧ DpAll K H us (rows.map (dR tup)) ∧ rows ≠ [] ∧
  ∀ (i : Nat) (u : V) (r : List Nat), us[i]? = some u → rows[i]? = some r → (∀ s ∈ rows, lx s r = false) → Q u H
theorem cr_minN {X : Cx} (tup : Bool) (hc : X.calm = true) (hu : X.A.units + 65 < cLine) : CallR X (.builtin "min") (rMinN X.K tup) := by
  intro pins s σ H vs us Q I r h
  obtain ⟨a, ws, rows, rfl, hs, hd, hne, q⟩ := h
  obtain ⟨its, rv, hl, _⟩ := I.list hs
  rw [Vals.ref1 r]
  obtain ⟨as, hr⟩ := Dp.readsAll I _ _ _ hd rv
  match rows, hne with
  | r0 :: rows, _ =>
    have ha : PySem.W.AlikeAll ((r0 :: rows).map (dR tup)) := by
      refine ⟨fun x hx y hy => ?_, fun x hx => ?_⟩
      · obtain ⟨p, _, rfl⟩ := List.mem_map.mp hx
        obtain ⟨p', _, rfl⟩ := List.mem_map.mp hy
        exact alike_dR tup _ _
      · obtain ⟨p, _, rfl⟩ := List.mem_map.mp hx
        unfold dR
        cases tup <;> simp
    have hdep := depthAll_dR tup (r0 :: rows)
    refine PySem.W.min_list_data (x := dR tup r0) (xs := rows.map (dR tup)) (I.ok.hd hc) hl.isList hr ha (by have : PyData.depthAll (dR tup r0 :: rows.map (dR tup)) ≤ 1 := hdep; omega) fun i v h' tk bs hv rd hk => ?_
    have hv' : its[i]? = some v := by
      rw [← hv]
      simp
    obtain ⟨u, hu1, hu2⟩ := vals_at rv i v hv'
    have hr' : ReadsAll s.heap its ((r0 :: rows).map (dR tup)) as := hr
    obtain ⟨bs2, rd2, hi, _, _⟩ := PySem.W.readsAll_at hr' i v hv'
    rw [List.length_map] at hi
    obtain ⟨ri, hri⟩ : ∃ ri, (r0 :: rows)[i]? = some ri := ⟨_, List.getElem?_eq_getElem hi⟩
    have e1 : ((r0 :: rows).map (dR tup)).getD i .none = dR tup ri := by
      rw [List.getD_eq_getElem?_getD, List.getElem?_map, hri]
      rfl
    rw [e1] at rd2
    rw [minD_dR] at rd
    have e2 := PySem.W.alike_unique _ _ _ _ _ (alike_dR tup ri (minL r0 rows)) (PySem.W.reads_keeps hk rd2) rd
    have e3 := dR_inj e2
    exact ⟨u, H, I.kept hk, hu2, q i u ri hu1 hri fun y hy => by rw [e3]; exact (minL_spec rows r0).2 y hy⟩
end K16

set_option maxRecDepth 100000
set_option maxHeartbeats 8000000
namespace K16
open PySem PySem.Spec PyProof.Rows L2 Kw
/-- the inner walk of a comprehension over two ranges -/
theorem lc2_in {m : Nat} {lo : Int} {g1 : TG} {tt1 : TT} {te : TE} {vs1 : List Nat} {σ2 : L2.St} {H4 : Hp} {D : Addr} {Nx : Hp → Prop} (Pw : Nat → Hp → Prop) (h0 : Pw 0 H4)
    (hs : ∀ j H, j < m → Pw j H → g1 (.int (lo + (j : Int))) (wipe σ2 vs1) H fun σ3 H5 => wipe σ3 vs1 = wipe σ2 vs1 ∧ tt1 σ3 H5 fun b H6 =>
        if b = true then te σ3 H6 fun y H7 => ∃ acc, H7 D = some (.lst acc) ∧ acc.length < sizeLine ∧ Pw (j + 1) (upd H7 D (.lst (acc ++ [y]))) else Pw (j + 1) H6)
    (hd : ∀ H, Pw m H → Nx H) :
    ∃ W1 : Nat → Nat → Hp → Prop, (∃ m, W1 0 m H4) ∧ ∀ j k H, W1 j k H →
        ((Itr lo m).stop j H ∧ Nx H) ∨ ((Itr lo m).go j H ∧ ∃ Nx1 : Hp → Prop, (∀ H', Nx1 H' → ∃ k', k' < k ∧ W1 (j + 1) k' H') ∧ ∀ x H', (Itr lo m).yld j H x H' → g1 x (wipe σ2 vs1) H' fun σ3 H5 => wipe σ3 vs1 = wipe σ2 vs1 ∧ tt1 σ3 H5 fun b H6 =>
          if b = true then te σ3 H6 fun y H7 => ∃ acc, H7 D = some (.lst acc) ∧ acc.length < sizeLine ∧ Nx1 (upd H7 D (.lst (acc ++ [y]))) else Nx1 H6) := by
  refine ⟨fun i k H => k = m - i ∧ i ≤ m ∧ Pw i H, ⟨m, by simp, Nat.zero_le _, h0⟩, ?_⟩
  rintro i k H ⟨rfl, hi, p⟩
  by_cases hlt : i < m
  · refine .inr ⟨hlt, Pw (i + 1), fun H' p' => ⟨m - (i + 1), by omega, rfl, hlt, p'⟩, fun x H' y => ?_⟩
    obtain ⟨e, y⟩ := y
    subst e y
    exact hs i _ hlt p
  · have e : i = m := by omega
    subst e
    exact .inl ⟨Nat.le_refl _, hd _ p⟩
/-- the outer walk, over a range -/
theorem lc2_out {n : Nat} {lo : Int} {wi1 : TI} {g g1 : TG} {tt tt1 : TT} {te : TE} {vs vs1 : List Nat} {σ : L2.St} {H1 : Hp} {D : Addr} {Qd : Hp → Prop} (Pv : Nat → Hp → Prop) (h0 : Pv 0 (upd H1 D (.lst [])))
    (hs : ∀ i H, i < n → Pv i H → ∀ Nx : Hp → Prop, (∀ H', Pv (i + 1) H' → Nx H') → g (.int (lo + (i : Int))) (wipe σ vs) H fun σ2 H2 => wipe σ2 vs = wipe σ vs ∧ tt σ2 H2 fun b H3 => if b = true then wi1 σ2 H3 fun J1 H4 => ∃ W1 : Nat → Nat → Hp → Prop, (∃ m, W1 0 m H4) ∧ ∀ j k H, W1 j k H →
        (J1.stop j H ∧ Nx H) ∨ (J1.go j H ∧ ∃ Nx1 : Hp → Prop, (∀ H', Nx1 H' → ∃ k', k' < k ∧ W1 (j + 1) k' H') ∧ ∀ x H', J1.yld j H x H' → g1 x (wipe σ2 vs1) H' fun σ3 H5 => wipe σ3 vs1 = wipe σ2 vs1 ∧ tt1 σ3 H5 fun b H6 =>
          if b = true then te σ3 H6 fun y H7 => ∃ acc, H7 D = some (.lst acc) ∧ acc.length < sizeLine ∧ Nx1 (upd H7 D (.lst (acc ++ [y]))) else Nx1 H6) else Nx H3)
    (hd : ∀ H, Pv n H → Qd H) :
    ∃ W : Nat → Nat → Hp → Prop, (∃ m, W 0 m (upd H1 D (.lst []))) ∧ ∀ i m H, W i m H →
  ((Itr lo n).stop i H ∧ Qd H) ∨ ((Itr lo n).go i H ∧ ∃ Nx : Hp → Prop, (∀ H', Nx H' → ∃ m', m' < m ∧ W (i + 1) m' H') ∧ ∀ x H', (Itr lo n).yld i H x H' → g x (wipe σ vs) H' fun σ2 H2 => wipe σ2 vs = wipe σ vs ∧ tt σ2 H2 fun b H3 =>
    if b = true then wi1 σ2 H3 fun J1 H4 => ∃ W1 : Nat → Nat → Hp → Prop, (∃ m, W1 0 m H4) ∧ ∀ j k H, W1 j k H →
        (J1.stop j H ∧ Nx H) ∨ (J1.go j H ∧ ∃ Nx1 : Hp → Prop, (∀ H', Nx1 H' → ∃ k', k' < k ∧ W1 (j + 1) k' H') ∧ ∀ x H', J1.yld j H x H' → g1 x (wipe σ2 vs1) H' fun σ3 H5 => wipe σ3 vs1 = wipe σ2 vs1 ∧ tt1 σ3 H5 fun b H6 =>
          if b = true then te σ3 H6 fun y H7 => ∃ acc, H7 D = some (.lst acc) ∧ acc.length < sizeLine ∧ Nx1 (upd H7 D (.lst (acc ++ [y]))) else Nx1 H6) else Nx H3) := by
  refine ⟨fun i k H => k = n - i ∧ i ≤ n ∧ Pv i H, ⟨n, by simp, Nat.zero_le _, h0⟩, ?_⟩
  rintro i k H ⟨rfl, hi, p⟩
  by_cases hlt : i < n
  · refine .inr ⟨hlt, Pv (i + 1), fun H' p' => ⟨n - (i + 1), by omega, rfl, hlt, p'⟩, fun x H' y => ?_⟩
    obtain ⟨e, y⟩ := y
    subst e y
    exact hs i _ hlt p _ fun _ z => z
  · have e : i = n := by omega
    subst e
    exact .inl ⟨Nat.le_refl _, hd _ p⟩
/-- the outer walk, over a list that stands still -/
theorem lc2_outL {K : PySem.W.Frag} {a : Addr} {xs : List V} {wi1 : TI} {g g1 : TG} {tt tt1 : TT} {te : TE} {vs vs1 : List Nat} {σ : L2.St} {H1 : Hp} {D : Addr} {Qd : Hp → Prop} (Pv : Nat → Hp → Prop) (h0 : Pv 0 (upd H1 D (.lst []))) (hl : ∀ i H, i ≤ xs.length → Pv i H → SqL K H a xs)
    (hs : ∀ i x H, xs[i]? = some x → Pv i H → ∀ Nx : Hp → Prop, (∀ H', Pv (i + 1) H' → Nx H') → g x (wipe σ vs) H fun σ2 H2 => wipe σ2 vs = wipe σ vs ∧ tt σ2 H2 fun b H3 => if b = true then wi1 σ2 H3 fun J1 H4 => ∃ W1 : Nat → Nat → Hp → Prop, (∃ m, W1 0 m H4) ∧ ∀ j k H, W1 j k H →
        (J1.stop j H ∧ Nx H) ∨ (J1.go j H ∧ ∃ Nx1 : Hp → Prop, (∀ H', Nx1 H' → ∃ k', k' < k ∧ W1 (j + 1) k' H') ∧ ∀ x H', J1.yld j H x H' → g1 x (wipe σ2 vs1) H' fun σ3 H5 => wipe σ3 vs1 = wipe σ2 vs1 ∧ tt1 σ3 H5 fun b H6 =>
          if b = true then te σ3 H6 fun y H7 => ∃ acc, H7 D = some (.lst acc) ∧ acc.length < sizeLine ∧ Nx1 (upd H7 D (.lst (acc ++ [y]))) else Nx1 H6) else Nx H3)
    (hd : ∀ H, Pv xs.length H → Qd H) :
    ∃ W : Nat → Nat → Hp → Prop, (∃ m, W 0 m (upd H1 D (.lst []))) ∧ ∀ i m H, W i m H →
  ((Itl K a).stop i H ∧ Qd H) ∨ ((Itl K a).go i H ∧ ∃ Nx : Hp → Prop, (∀ H', Nx H' → ∃ m', m' < m ∧ W (i + 1) m' H') ∧ ∀ x H', (Itl K a).yld i H x H' → g x (wipe σ vs) H' fun σ2 H2 => wipe σ2 vs = wipe σ vs ∧ tt σ2 H2 fun b H3 =>
    if b = true then wi1 σ2 H3 fun J1 H4 => ∃ W1 : Nat → Nat → Hp → Prop, (∃ m, W1 0 m H4) ∧ ∀ j k H, W1 j k H →
        (J1.stop j H ∧ Nx H) ∨ (J1.go j H ∧ ∃ Nx1 : Hp → Prop, (∀ H', Nx1 H' → ∃ k', k' < k ∧ W1 (j + 1) k' H') ∧ ∀ x H', J1.yld j H x H' → g1 x (wipe σ2 vs1) H' fun σ3 H5 => wipe σ3 vs1 = wipe σ2 vs1 ∧ tt1 σ3 H5 fun b H6 =>
          if b = true then te σ3 H6 fun y H7 => ∃ acc, H7 D = some (.lst acc) ∧ acc.length < sizeLine ∧ Nx1 (upd H7 D (.lst (acc ++ [y]))) else Nx1 H6) else Nx H3) := by
  refine ⟨fun i m H => m = xs.length - i ∧ i ≤ xs.length ∧ Pv i H, ⟨xs.length, by simp, Nat.zero_le _, h0⟩, ?_⟩
  rintro i m H ⟨rfl, hi, p⟩
  have q := hl i H hi p
  by_cases hlt : i < xs.length
  · refine .inr ⟨⟨xs, xs[i], q, by simp [hlt]⟩, Pv (i + 1), fun H' p' => ⟨xs.length - (i + 1), by omega, rfl, hlt, p'⟩, fun x H' y => ?_⟩
    obtain ⟨e, y⟩ := y
    subst e
    exact hs i x _ (y xs q) p _ fun _ z => z
  · have e : i = xs.length := by omega
    subst e
    exact .inl ⟨⟨xs, q, Nat.le_refl _⟩, hd H p⟩
end K16

set_option maxRecDepth 100000
set_option maxHeartbeats 8000000
namespace K16
open PySem PySem.Spec PyProof.Rows L2 Kw
theorem WorldAt.heir {H : Hp} {p C : Addr} {ds : List Ent} (h : WorldAt H p C ds) {x : Nat} (hx : x < ds.length) : ∃ (dx : Addr) (fs : List (Str × V)) (ah : Addr) (hs : List V) (t : Addr), H p = some (.ins C dx fs) ∧ List.lookup ("heirs" : Str) fs = some (V.ref ah) ∧ H ah = some (.tup hs) ∧ hs[x]? = some (.ref t) ∧ H t = some (.tup ((heirRow (elsOf ds) ds.length x).map natV)) := by
  obtain ⟨dx, ac, ab, ao, am, ae, ah, cs, bs, ms, es, hs, h1, h2, h3, h4, h5, h6, h7, h8, h9, h10, h11, h12⟩ := h
  have hl : (heirs (elsOf ds))[x]? = some (heirRow (elsOf ds) ds.length x) := by
    unfold heirs
    rw [List.getElem?_map, List.getElem?_range (by rw [elsOf_len]; exact hx), elsOf_len]
    rfl
  obtain ⟨t, e1, e2⟩ := h12.get hl
  exact ⟨dx, _, ah, hs, t, h1, rfl, h11, e1, e2⟩
def commonH (els : List (List Nat)) (n x y : Nat) : List Nat := (heirRow els n x).filter fun h => (heirRow els n y).contains h
theorem mem_common {els : List (List Nat)} {n x y h : Nat} : h ∈ commonH els n x y ↔ h < n ∧ x ∈ els.getD h [] ∧ y ∈ els.getD h [] := by
  unfold commonH heirRow
  rw [List.mem_filter, List.contains_iff_mem, List.mem_filter, List.mem_filter, List.mem_range, List.contains_iff_mem, List.contains_iff_mem]
  exact ⟨fun h => ⟨h.1.1, h.1.2, h.2.2⟩, fun h => ⟨⟨h.1, h.2.1⟩, h.1, h.2.2⟩⟩
section
variable {P : Program} {w : World} {K : PySem.W.Frag} {mg : Str → Option Value} {base : Heap} {f fW fN fC fL fH C Cn : Addr} {fd fdW fdN fdC fdL fdH : FuncData}
def spCommon (C : Addr) : Sp := fun vs H Q _ => ∃ (p : Addr) (ds : List Ent) (x y : Nat), vs = [.ref p, natV x, natV y] ∧ WorldAt H p C ds ∧ x < ds.length ∧ y < ds.length ∧ ds.length ≤ 12 ∧
  ∀ t H', Same H H' → H' t = some (.tup ((commonH (elsOf ds) ds.length x y).map natV)) → Q (.ref t) H'
theorem sc_common : FnScope ["world", "a", "b", "heir"] ["world", "a", "b"] (defScope (top 16)) := ⟨rfl, rfl, rfl, by decide +kernel, rfl, by decide +kernel, by decide +kernel⟩
theorem ok_common (F : FnP K "common_heirs" 16 f fd) (B : Fr mg) (TC : ClsWorld K mg C) (FC : FnP K "check_class" 15 fC fdC) (mC : mg "check_class" = some (.ref fC)) (FW : FnDf K "is_whole" 12 [.non, .non] fW fdW) (mW : mg "is_whole" = some (.ref fW)) (FN : FnM K "__init__" "NoClass.__init__" (inClass (top 5) 0) fN fdN) (TN : ErrX K mg "NoClass" ["cls"] Cn fN) :
    FnOk P w K mg base CX0 4 f fd ["world", "a", "b"] (spCommon C) := by
  have GC : FnOk P w K mg base (L2.CX P w) 3 fC fdC ["world", "c"] (spCheck C Cn) := ok_check FC B TC FW mW FN TN
  have bC : L2.Binds K fdC ["world", "c"] [] := FC.bindsN fun _ _ _ _ _ _ us hl => match us, hl with | [_, _], _ => rfl
  refine F.ok sc_common (fun vs H Q E h => ?_) (fun cdv A outer s H vs Q E hr h => ?_)
  · obtain ⟨p, ds, x, y, rfl, _⟩ := h
    rfl
  · obtain ⟨p, ds, x, y, rfl, hw, hx, hy, h12, k⟩ := h
    refine ⟨_, PSs.nox (pss_cons (ps_expr (pe_call GC hr (by rfl) mC FC.kp bC .nil (passOut (E := fun _ _ _ => False)) (pa_cons (pv 0) (pa_cons (pv 1) pa_nil))))
      (pss_cons (ps_expr (pe_call GC hr (by rfl) mC FC.kp bC .nil (passOut (E := fun _ _ _ => False)) (pa_cons (pv 0) (pa_cons (pv 2) pa_nil))))
      (pss_one (ps_ret (pe_callTy (T := "tuple") (r := rTupOf K) (call_tup (X := _)) (by rfl) B.tuple (by decide +kernel) (pa_cons
        (pe_lc (own := [("heir", 3)]) (g := gName 3) (tt := tTest (tOp (rIn K false) (tVar 3) (tOp (rIxT K) (tFld K (tVar 0) "heirs") (tVar 2)))) rfl sc_common.nd (pi_tup (pe_ix (r := rIxT K) ix_tup (pe_fld (pv 0) rfl) (pv 1) (fun _ _ => rfl))) (blkOk_by (N := ["world", "a", "b", "heir"]) (sc := defScope (top 16)) (by decide +kernel))
          (fun _ _ _ _ _ => pg_name (i := 3) sc_common.nd rfl (Or.inl rfl)) (fun _ _ _ _ _ => ?tt)
          (fun _ _ _ _ _ => pv 3)) pa_nil)))))), ?_⟩
    case tt => exact pts_one (pt_cmpR (r := rIn K false) op_in_seq (pv 3) (pe_ix (r := rIxT K) ix_tup (pe_fld (pv 0) rfl) (pv 2) (fun _ _ => rfl)) (by rfl))
    refine ⟨_, rfl, _, rfl, p, natV x, "int", ds, rfl, hw, .int _, .inl ⟨whole_of hx, fun H1 s1 => ?_⟩⟩
    refine ⟨_, rfl, _, rfl, p, natV y, "int", ds, rfl, hw.mono s1, .int _, .inl ⟨whole_of hy, fun H2 s2 => ?_⟩⟩
    have hw2 := (hw.mono s1).mono s2
    obtain ⟨dx, fs, ah, hs, t1, p1, p2, p3, p4, p5⟩ := hw2.heir hx
    obtain ⟨dx', fs', ah', hs', t2, q1, q2, q3, q4, q5⟩ := hw2.heir hy
    have hlen : (heirRow (elsOf ds) ds.length x).length ≤ 12 := by
      unfold heirRow
      refine Nat.le_trans (List.length_filter_le _ _) ?_
      rw [List.length_range]
      exact h12
    generalize hrow : heirRow (elsOf ds) ds.length x = row at p5 hlen
    refine ⟨_, rfl, p, C, dx, _, _, rfl, p1, TC.cl, TC.no _ (List.mem_of_getElem? (i := 5) rfl), p2, _, rfl, ah, hs, (x : Int), _, rfl, rfl, SqT.of p3, atI_nat p4, t1, rfl, ⟨_, SqT.of p5⟩, fun D hD => lc_tup (K := K) (a := t1) (xs := row.map natV) (fun j H4 => Same H2 H4 ∧ H4 D = some (.lst (((row.take j).filter fun h => (heirRow (elsOf ds) ds.length y).contains h).map natV))) ⟨same_new hD, upd_same⟩ (fun j H4 _ z => SqT.of (z.1 _ _ p5)) ?_ ?_⟩
    · rintro j v H4 hj ⟨s4, hD4⟩
      rw [List.getElem?_map] at hj
      obtain ⟨h, hh, rfl⟩ := Option.map_eq_some_iff.mp hj
      refine ⟨rfl, _, rfl, _, rfl, p, C, dx', _, _, rfl, s4 _ _ q1, TC.cl, TC.no _ (List.mem_of_getElem? (i := 5) rfl), q2, _, rfl, ah', hs', (y : Int), _, rfl, rfl, SqT.of (s4 _ _ q3), atI_nat q4, t2, _, rfl, .inr (SqT.of (s4 _ _ q5)), rfl, flat_nats _, _, rfl, ?_⟩
      have e1 : inV (natV h) ((heirRow (elsOf ds) ds.length y).map natV) = (heirRow (elsOf ds) ds.length y).contains h := inV_nat _ _
      show (if inV (natV h) ((heirRow (elsOf ds) ds.length y).map natV) = true then _ else _)
      rw [e1]
      have tk : row.take (j + 1) = row.take j ++ [h] := by
        rw [List.take_add_one, hh]
        rfl
      cases c : (heirRow (elsOf ds) ds.length y).contains h with
      | true =>
        refine iteT' rfl ⟨_, rfl, _, hD4, ?_, same_upd s4 hD, ?_⟩
        · rw [List.length_map]
          refine Nat.lt_of_le_of_lt (List.length_filter_le _ _) ?_
          rw [List.length_take]
          show _ < 2 ^ 24
          omega
        · rw [tk, List.filter_append, List.map_append, upd_same, List.filter_cons_of_pos (by exact c)]
          rfl
      | false =>
        refine iteF' rfl ⟨s4, ?_⟩
        rw [tk, List.filter_append, List.filter_cons_of_neg (by rw [c]; decide)]
        simpa using hD4
    · rintro H4 ⟨s4, hD4⟩
      rw [List.length_map, List.take_length] at hD4
      refine tup_q (.inl hD4) fun t H5 s5 ht5 => k t H5 (((s1.trans s2).trans s4).trans s5) ?_
      unfold commonH
      rw [hrow]
      exact ht5
end
end K16

set_option maxRecDepth 100000
set_option maxHeartbeats 8000000
namespace K16
open PySem PySem.Spec PyProof.Rows L2 Kw
theorem rival_iff {ds : List Ent} (ok : DsOk ds) {a b : Nat} : Rival (kins (elsOf ds)) a b ↔ a < b ∧ b < ds.length ∧ onLine (elsOf ds) a b = false ∧ commonH (elsOf ds) ds.length a b ≠ [] := by
  have below : ∀ {c x : Nat}, x ∈ (elsOf ds).getD c [] → x < c := fun h => elders_below h
  have line : a < b → (onLine (elsOf ds) a b = false ↔ a ∉ (elsOf ds).getD b []) := fun hab => by
    unfold onLine
    rw [decide_eq_false (by omega), Bool.false_or, Bool.or_eq_false_iff]
    constructor
    · rintro ⟨h, _⟩ z
      rw [List.contains_iff_mem.mpr z] at h
      cases h
    · intro h
      constructor
      · cases c : ((elsOf ds).getD b []).contains a with
        | false => rfl
        | true => exact (h (List.contains_iff_mem.mp c)).elim
      · cases c : ((elsOf ds).getD a []).contains b with
        | false => rfl
        | true =>
          have := below (List.contains_iff_mem.mp c)
          omega
  unfold Rival
  rw [kinsL]
  constructor
  · rintro ⟨hab, hb, hn, c, hc, h1, h2⟩
    rw [kins_els hb] at hn
    rw [kins_els hc] at h1 h2
    refine ⟨hab, hb, (line hab).mpr fun z => hn (List.mem_append_left _ z), ?_⟩
    have e2 : b ∈ (elsOf ds).getD c [] := by
      rcases List.mem_append.mp h2 with z | z
      · exact z
      · rw [← List.mem_singleton.mp z] at h1
        exact (hn h1).elim
    have e1 : a ∈ (elsOf ds).getD c [] := by
      rcases List.mem_append.mp h1 with z | z
      · exact z
      · have := List.mem_singleton.mp z
        have := below e2
        omega
    exact List.ne_nil_of_mem (mem_common.mpr ⟨hc, e1, e2⟩)
  · rintro ⟨hab, hb, hl, hn⟩
    obtain ⟨c, hc⟩ := List.exists_mem_of_ne_nil _ hn
    obtain ⟨c1, c2, c3⟩ := mem_common.mp hc
    refine ⟨hab, hb, ?_, c, c1, ?_, ?_⟩
    · rw [kins_els hb]
      intro z
      rcases List.mem_append.mp z with z | z
      · exact (line hab).mp hl z
      · have := List.mem_singleton.mp z
        omega
    · rw [kins_els c1]
      exact List.mem_append_left _ c2
    · rw [kins_els c1]
      exact List.mem_append_left _ c3
section
variable {P : Program} {w : World} {K : PySem.W.Frag} {mg : Str → Option Value} {base : Heap} {f fW fN fC fL fH C Cn : Addr} {fd fdW fdN fdC fdL fdH : FuncData}
def spApart (C : Addr) : Sp := fun vs H Q _ => ∃ (p : Addr) (ds : List Ent), vs = [.ref p] ∧ WorldAt H p C ds ∧ DsOk ds ∧ ds.length ≤ 12 ∧
  ∀ t H' us ps, Same H H' → H' t = some (.tup us) → PairsAt H' us ps → ps.length ≤ 1000 → SortP ps → (∀ a b, (a, b) ∈ ps ↔ Rival (kins (elsOf ds)) a b) → Q (.ref t) H'
theorem sc_apart : FnScope ["world", "many", "a", "b"] ["world"] (defScope (top 28)) := ⟨rfl, rfl, rfl, by decide +kernel, rfl, by decide +kernel, by decide +kernel⟩
theorem ok_apart (F : FnP K "apart_pairs" 28 f fd) (B : Fr mg) (TC : ClsWorld K mg C) (FH : FnP K "common_heirs" 16 fH fdH) (mH : mg "common_heirs" = some (.ref fH)) (FL : FnP K "on_line" 17 fL fdL) (mL : mg "on_line" = some (.ref fL)) (FC : FnP K "check_class" 15 fC fdC) (mC : mg "check_class" = some (.ref fC)) (FW : FnDf K "is_whole" 12 [.non, .non] fW fdW) (mW : mg "is_whole" = some (.ref fW)) (FN : FnM K "__init__" "NoClass.__init__" (inClass (top 5) 0) fN fdN) (TN : ErrX K mg "NoClass" ["cls"] Cn fN) :
    FnOk P w K mg base CX0 5 f fd ["world"] (spApart C) := by
  have GL : FnOk P w K mg base (L2.CX P w) 4 fL fdL ["world", "a", "b"] (spOnLine C Cn) := ok_onLine FL B TC FC mC FW mW FN TN
  have bL : L2.Binds K fdL ["world", "a", "b"] [] := FL.bindsN fun _ _ _ _ _ _ us hl => match us, hl with | [_, _, _], _ => rfl
  have GH : FnOk P w K mg base CX0 4 fH fdH ["world", "a", "b"] (spCommon C) := ok_common FH B TC FC mC FW mW FN TN
  have bH : L2.Binds K fdH ["world", "a", "b"] [] := FH.bindsN fun _ _ _ _ _ _ us hl => match us, hl with | [_, _, _], _ => rfl
  refine F.ok sc_apart (fun vs H Q E h => ?_) (fun cdv A outer s H vs Q E hr h => ?_)
  · obtain ⟨p, ds, rfl, _⟩ := h
    rfl
  · obtain ⟨p, ds, rfl, hw, ok, h12, k⟩ := h
    refine ⟨_, PSs.nox (pss_cons (ps_set (i := 1) sc_apart.nd rfl (Or.inr rfl) (pe_callB call_len_seq (by rfl) B.len PySem.boot_len (pa_cons (pe_fld (pv 0) rfl) pa_nil)))
      (pss_one (ps_ret (pe_callTy (T := "tuple") (r := rTupOf K) (call_tup (X := _)) (by rfl) B.tuple (by decide +kernel) (pa_cons
        (pe_lc2 (own := [("a", 2), ("b", 3)]) (vs1 := [3]) (g := gName 2) (g1 := gName 3) rfl sc_apart.nd (pi_range1 (by rfl) B.range (pa_cons (pv 1) pa_nil)) (blkOk_by (N := ["world", "many", "a", "b"]) (sc := defScope (top 28)) (by decide +kernel)) (by decide)
          (fun _ _ _ _ _ => pg_name (i := 2) sc_apart.nd rfl (Or.inl rfl)) (fun _ _ _ _ _ => pts_nil)
          (fun _ _ _ _ _ => pi_range2 (by rfl) B.range (pa_cons (pe_op op_add (pv 2) pe_int) (pa_cons (pv 1) pa_nil)))
          (fun _ _ _ _ _ => pg_name (i := 3) sc_apart.nd rfl (Or.inl rfl))
          (fun _ _ _ _ _ => pts_one (PW.pt (pw_and (pt_not (pt_val (pe_call GL hr (by rfl) mL FL.kp bL .nil (passOut (E := fun _ _ _ => False)) (pa_cons (pv 0) (pa_cons (pv 2) (pa_cons (pv 3) pa_nil))))))
            (pw_and1 (pt_cmp (pc_gt (pe_callB (id := "len") (r := rLenS K) (call_lenS (X := _)) (by rfl) B.len PySem.boot_len (pa_cons (pe_call GH hr (by rfl) mH FH.kp bH .nil pass0 (pa_cons (pv 0) (pa_cons (pv 2) (pa_cons (pv 3) pa_nil)))) pa_nil)) pe_int))))))
          (fun _ _ _ _ _ => pe_tup (pa_cons (pv 2) (pa_cons (pv 3) pa_nil)))) pa_nil))))), ?_⟩
    have hw0 := hw
    obtain ⟨dx, ac, ab, ao, am, ae, ah, cs, bs, ms, es, hs, h1, h2, h3, _⟩ := hw
    have lcs : cs.length = ds.length := h3.len
    refine ⟨_, rfl, p, C, dx, _, _, rfl, h1, TC.cl, TC.no _ (List.mem_of_getElem? (i := 0) rfl), rfl, ac, cs, rfl, .inr (SqT.of h2), ?_⟩
    rw [lcs]
    refine ⟨_, rfl, _, rfl, by omega, by omega, fun D hD => ?_⟩
    have eN : (((ds.length : Nat) : Int)).toNat = ds.length := by omega
    generalize hks : kins (elsOf ds) = ks at k
    have riv : ∀ a b, Rival ks a b ↔ a < b ∧ b < ds.length ∧ onLine (elsOf ds) a b = false ∧ commonH (elsOf ds) ds.length a b ≠ [] := fun a b => by
      rw [← hks]
      exact rival_iff ok
    refine lc2_out (lo := 0) (n := (((ds.length : Nat) : Int)).toNat) (fun i H' => Same H H' ∧ ∃ us ps, H' D = some (.lst us) ∧ PairsAt H' us ps ∧ ps.length ≤ 12 * i ∧ SortP ps ∧ ∀ a b, (a, b) ∈ ps ↔ Rival ks a b ∧ a < i)
      ⟨same_new hD, [], [], upd_same, .nil, Nat.le_refl _, .nil, fun a b => ⟨(fun h => by cases h), fun h => absurd h.2 (Nat.not_lt_zero _)⟩⟩ ?_ ?_
    · rintro i H2 hi ⟨s2, us, ps, hD2, hP, hpl, hso, hps⟩ Nx hNx
      rw [eN] at hi
      have ei : (0 : Int) + (i : Int) = (i : Int) := by omega
      rw [ei]
      refine ⟨rfl, _, rfl, _, _, rfl, rfl, _, rfl, _, _, rfl, ⟨by omega, by omega, by omega, by omega⟩, ?_⟩
      refine lc2_in (lo := (i : Int) + 1) (m := (((ds.length : Nat) : Int) - ((i : Int) + 1)).toNat) (fun j H' => Same H H' ∧ ∃ us ps, H' D = some (.lst us) ∧ PairsAt H' us ps ∧ ps.length ≤ 12 * i + j ∧ SortP ps ∧ ∀ a b, (a, b) ∈ ps ↔ Rival ks a b ∧ (a < i ∨ (a = i ∧ b < i + 1 + j)))
        ⟨s2, us, ps, hD2, hP, hpl, hso, fun a b => ?_⟩ ?_ ?_
      · rw [hps]
        refine and_congr_right fun hr => ⟨.inl, fun h => h.elim id fun h => ?_⟩
        have := hr.1
        omega
      · rintro j H3 hj ⟨s3, us, ps, hD3, hP, hpl, hso, hps⟩
        obtain ⟨b, eb, bn⟩ : ∃ b : Nat, (i : Int) + 1 + (j : Int) = (b : Int) ∧ b = i + 1 + j := ⟨i + 1 + j, by omega, rfl⟩
        rw [eb]
        have hbn : b < ds.length := by omega
        have skip : ∀ H4, Same H3 H4 → ¬ Rival ks i b → Same H H4 ∧ ∃ us ps, H4 D = some (.lst us) ∧ PairsAt H4 us ps ∧ ps.length ≤ 12 * i + (j + 1) ∧ SortP ps ∧ ∀ a b', (a, b') ∈ ps ↔ Rival ks a b' ∧ (a < i ∨ (a = i ∧ b' < i + 1 + (j + 1))) := fun H4 s4 hno => ⟨s3.trans s4, us, ps, s4 _ _ hD3, hP.same s4, by omega, hso, fun a b' => by
          rw [hps]
          refine and_congr_right fun hr => ⟨fun h => h.imp id fun h => ⟨h.1, by omega⟩, fun h => h.imp id fun h => ⟨h.1, ?_⟩⟩
          apply Classical.byContradiction
          intro z
          have : b' = b := by omega
          rw [h.1, this] at hr
          exact hno hr⟩
        refine ⟨rfl, _, rfl, _, rfl, _, rfl, p, natV i, natV b, "int", "int", ds, rfl, hw0.mono s3, .int _, .int _, .inr (.inr ⟨i, b, rfl, rfl, hi, hbn, fun H4 s4 => ?_⟩)⟩
        refine ⟨_, rfl, ?_⟩
        cases c1 : onLine (elsOf ds) i b with
        | true => exact iteF' rfl (iteF' rfl (skip H4 s4 fun z => by have := ((riv i b).mp z).2.2.1; rw [c1] at this; cases this))
        | false =>
          refine iteT' rfl ⟨_, rfl, _, rfl, _, rfl, p, ds, i, b, rfl, hw0.mono (s3.trans s4), hi, hbn, h12, fun t H5 s5 ht => ⟨t, _, rfl, .inr (SqT.of ht), _, _, rfl, rfl, ?_⟩⟩
          have s35 := s4.trans s5
          refine ⟨_, rfl, ?_⟩
          cases hcm : commonH (elsOf ds) ds.length i b with
          | nil =>
            refine iteF' (by simp) (skip H5 s35 fun z => ?_)
            exact ((riv i b).mp z).2.2.2 hcm
          | cons hx hy =>
            have hr : Rival ks i b := (riv i b).mpr ⟨by omega, hbn, c1, by rw [hcm]; exact List.cons_ne_nil _ _⟩
            have hD5 := s35 _ _ hD3
            refine iteT' (by simp) ⟨_, rfl, _, rfl, (by show 2 ≤ sizeLine; decide), fun T hT => ⟨us, same_new hT _ _ hD5, ?_, ?_⟩⟩
            · rw [hP.len]
              show _ < 2 ^ 24
              omega
            · have sT := same_new (o := .tup [natV i, natV b]) hT
              have hDT := sT _ _ hD5
              have TD : T ≠ D := fun z => by
                rw [z, hD5] at hT
                cases hT
              refine ⟨same_upd ((s3.trans s35).trans sT) hD, us ++ [.ref T], ps ++ [(i, b)], upd_same, ?_, by rw [List.length_append, List.length_singleton]; omega, hso.snoc fun q hq => ?_, fun a b' => ?_⟩
              · exact (PairsAt.keep hDT (Oth.upd (Oth.of (Same.refl _))) ((hP.same s35).same sT)).app (.cons ⟨T, rfl, upB TD upd_same⟩ .nil)
              · have := (hps q.1 q.2).mp hq
                omega
              · rw [List.mem_append, List.mem_singleton, hps]
                constructor
                · rintro (h | h)
                  · exact ⟨h.1, h.2.imp id fun z => ⟨z.1, by omega⟩⟩
                  · cases h
                    exact ⟨hr, .inr ⟨rfl, by omega⟩⟩
                · rintro ⟨h1, h2⟩
                  by_cases q : a = i ∧ b' = b
                  · right
                    rw [q.1, q.2]
                  · left
                    refine ⟨h1, h2.imp id fun z => ⟨z.1, ?_⟩⟩
                    have : b' ≠ b := fun y => q ⟨z.1, y⟩
                    omega
      · rintro H3 ⟨s3, us, ps, hD3, hP, hpl, hso, hps⟩
        refine hNx _ ⟨s3, us, ps, hD3, hP, by omega, hso, fun a b => ?_⟩
        rw [hps]
        refine and_congr_right fun hr => ⟨fun h => by omega, fun h => ?_⟩
        have := ((riv a b).mp hr).2.1
        by_cases q : a < i
        · exact .inl q
        · exact .inr ⟨by omega, by omega⟩
    · rintro H2 ⟨s2, us, ps, hD2, hP, hpl, hso, hps⟩
      rw [eN] at hpl hps
      refine tup_q (.inl hD2) fun t H5 s5 ht5 => k t H5 us ps (s2.trans s5) ht5 (hP.same s5) (by omega) hso fun a b => ?_
      rw [hps]
      exact ⟨fun h => h.1, fun h => ⟨h, by have h1 := ((riv a b).mp h).1; have h2 := ((riv a b).mp h).2.1; omega⟩⟩
end
end K16

set_option maxRecDepth 100000
set_option maxHeartbeats 8000000
namespace K16
open PySem PySem.Spec PyProof.Rows L2 Kw
theorem PairsAt.at {H : Hp} {us : List V} {ps : List (Nat × Nat)} (h : PairsAt H us ps) : ∀ {j : Nat} {v : V}, us[j]? = some v → ∃ p t, ps[j]? = some p ∧ v = .ref t ∧ H t = some (.tup [natV p.1, natV p.2]) := by
  have h : Paired (fun v (p : Nat × Nat) => ∃ t, v = .ref t ∧ H t = some (.tup [natV p.1, natV p.2])) us ps := h
  induction h with
  | nil => intro j v hv; cases hv
  | cons r _ ih =>
    intro j v hv
    cases j with
    | zero =>
      obtain rfl := Option.some.inj hv
      obtain ⟨t, e, ht⟩ := r
      exact ⟨_, t, rfl, e, ht⟩
    | succ j => exact ih (by assumption) hv
def Eps (ps : List (Nat × Nat)) (a b : Nat) : Bool := decide ((a, b) ∈ ps)
def barOf (ps : List (Nat × Nat)) (row : List Nat) : List Nat := (ps.filter fun p => p.2 == row.length).map fun p => row.getD p.1 0
theorem okH_bar {ps : List (Nat × Nat)} {row : List Nat} {h : Nat} (hlt : ∀ p ∈ ps, p.1 < p.2) : (barOf ps row).contains h = !okH (Eps ps) row h := by
  have e : okH (Eps ps) row h = true ↔ h ∉ barOf ps row := by
    rw [okH_iff]
    unfold barOf Eps
    constructor
    · intro z hm
      obtain ⟨p, hp, e⟩ := List.mem_map.mp hm
      obtain ⟨hp, e2⟩ := List.mem_filter.mp hp
      have e2 := beq_iff_eq.mp e2
      have lt := hlt p hp
      refine z p.1 (by omega) (decide_eq_true ?_) e
      rw [← e2]
      exact hp
    · intro z a ha he e
      refine z (List.mem_map.mpr ⟨(a, row.length), List.mem_filter.mpr ⟨of_decide_eq_true he, ?_⟩, e⟩)
      simp
  cases c : okH (Eps ps) row h with
  | true =>
    have := e.mp c
    cases d : (barOf ps row).contains h with
    | false => rfl
    | true => exact (this (List.contains_iff_mem.mp d)).elim
  | false =>
    cases d : (barOf ps row).contains h with
    | true => rfl
    | false =>
      have : okH (Eps ps) row h = true := e.mpr fun z => by
        rw [List.contains_iff_mem.mpr z] at d
        cases d
      rw [c] at this
      cases this
theorem bar_take {ps : List (Nat × Nat)} {row : List Nat} {j : Nat} {p : Nat × Nat} (h : ps[j]? = some p) : barOf (ps.take (j + 1)) row = barOf (ps.take j) row ++ (if (p.2 == row.length) = true then [row.getD p.1 0] else []) := by
  unfold barOf
  rw [List.take_add_one, h, List.filter_append, List.map_append]
  congr 1
  show (List.filter _ [p]).map _ = _
  cases c : p.2 == row.length with
  | true =>
    rw [List.filter_cons_of_pos (by exact c)]
    rfl
  | false =>
    rw [List.filter_cons_of_neg (by rw [c]; decide)]
    rfl
theorem bar_len {ps : List (Nat × Nat)} {row : List Nat} : (barOf ps row).length ≤ ps.length := by
  unfold barOf
  rw [List.length_map]
  exact List.length_filter_le _ _
section
variable {P : Program} {w : World} {K : PySem.W.Frag} {mg : Str → Option Value} {base : Heap} {f fA fR C : Addr} {fd fdA fdR : FuncData}
def spFRow (m : Nat) : Sp := fun vs H Q _ => ∃ (t r : Addr) (us : List V) (ps : List (Nat × Nat)) (n k : Nat) (row : List Nat), vs = [.ref t, natV n, natV k, .ref r] ∧ H t = some (.tup us) ∧ PairsAt H us ps ∧ ps.length ≤ 1000 ∧ (∀ p ∈ ps, p.1 < p.2) ∧ H r = some (.tup (row.map natV)) ∧ row.length + m = n ∧ n ≤ 12 ∧ k ≤ 12 ∧
  ∀ v H', Same H H' → OptTup H' v (frow (Eps ps) k m row) → Q v H'
theorem sc_frow : FnScope ["pairs", "many", "k", "row", "barred", "a", "b", "hue", "found"] ["pairs", "many", "k", "row"] (defScope (top 31)) := ⟨rfl, rfl, rfl, by decide +kernel, rfl, by decide +kernel, by decide +kernel⟩
theorem ok_frow (F : FnP K "first_row" 31 f fd) (B : Fr mg) (mF : mg "first_row" = some (.ref f)) : ∀ m : Nat, FnOk P w K mg base CX0 (m + 2) f fd ["pairs", "many", "k", "row"] (spFRow m) := by
  have bF : L2.Binds K fd ["pairs", "many", "k", "row"] [] := F.bindsN fun _ _ _ _ _ _ us hl => match us, hl with | [_, _, _, _], _ => rfl
  intro m
  induction m with
  | zero =>
    refine F.ok sc_frow (fun vs H Q E h => ?_) (fun cdv A outer s H vs Q E hr h => ?_)
    · obtain ⟨t, r, us, ps, n, k, row, rfl, _⟩ := h
      rfl
    · obtain ⟨t, r, us, ps, n, k, row, rfl, ht, hP, hl, hlt, hr', hn, n12, k12, kk⟩ := h
      refine ⟨_, PSs.nox (pss_cons (ps_if (pt_cmp (pc_eqI (pe_callB call_len_seq (by rfl) B.len PySem.boot_len (pa_cons (pv 3) pa_nil)) (pv 1))) (pss_one (ps_ret (pv 3))) pss_nil) (pss_cons ps_never (pss_cons ps_never (pss_one ps_never)))), ?_⟩
      refine ⟨_, rfl, r, _, rfl, .inr (SqT.of hr'), _, rfl, _, _, rfl, rfl, _, rfl, iteT' (by simp; omega) ⟨_, rfl, kk _ H (Same.refl H) (.inr ⟨row, r, rfl, rfl, hr'⟩)⟩⟩
  | succ m ih =>
    refine F.ok sc_frow (fun vs H Q E h => ?_) (fun cdv A outer s H vs Q E hr h => ?_)
    · obtain ⟨t, r, us, ps, n, k, row, rfl, _⟩ := h
      rfl
    · obtain ⟨t, r, us, ps, n, k, row, rfl, ht, hP, hl, hlt, hr', hn, n12, k12, kk⟩ := h
      refine ⟨_, PSs.nox (pss_cons (ps_if (pt_cmp (pc_eqI (pe_callB call_len_seq (by rfl) B.len PySem.boot_len (pa_cons (pv 3) pa_nil)) (pv 1))) (pss_one ps_never) pss_nil)
        (pss_cons (ps_setLc (i := 4) (own := [("a", 5), ("b", 6)]) (g := gTup K 2 (gCons (gName 5) (gCons (gName 6) gNil))) rfl sc_frow.nd rfl rfl (sw_true rfl rfl rfl (by decide +kernel)) (pi_tup (pv 0)) (blkOk_by (N := ["pairs", "many", "k", "row", "barred", "a", "b", "hue", "found"]) (sc := defScope (top 31)) (by decide +kernel))
          (fun _ _ _ _ _ => pg_tup (by rfl) (pgs_cons (pg_name (i := 5) sc_frow.nd rfl (Or.inl rfl)) (pgs_cons (pg_name (i := 6) sc_frow.nd rfl (Or.inl rfl)) pgs_nil)))
          (fun _ _ _ _ _ => pts_one (pt_cmp (pc_eqI (pv 6) (pe_callB (id := "len") (r := rLenS K) (call_lenS (X := _)) (by rfl) B.len PySem.boot_len (pa_cons (pv 3) pa_nil)))))
          (fun _ _ _ _ _ => pe_ix (r := rIxT K) ix_tup (pv 3) (pv 5) (fun _ _ => rfl)))
        (pss_cons (ps_for PassesOwn.never rfl (pi_range1 (by rfl) B.range (pa_cons (pv 2) pa_nil)) (pg_name (i := 7) sc_frow.nd rfl (Or.inl rfl))
          (pss_one (ps_if (pt_cmpR (r := rIn K true) op_notIn_seq (pv 7) (pv 4) (by rfl))
            (pss_cons (ps_set (i := 8) sc_frow.nd rfl (Or.inl rfl) (pe_call ih hr (by rfl) mF F.kp bF .nil pass0 (pa_cons (pv 0) (pa_cons (pv 1) (pa_cons (pv 2) (pa_cons (pe_op (r := rCatQ K) op_catQ (pv 3) (pe_tup (pa_cons (pv 7) pa_nil))) pa_nil))))))
              (pss_one (ps_if (pt_cmpR op_notN (pv 8) pe_non (nomark _)) (pss_one (ps_ret (pv 8))) pss_nil))) pss_nil)))
        (pss_one (ps_ret pe_non))))), ?_⟩
      refine ⟨_, rfl, r, _, rfl, .inr (SqT.of hr'), _, rfl, _, _, rfl, rfl, _, rfl, iteF' (by simp; omega) ?_⟩
      refine ⟨_, rfl, t, rfl, ⟨_, SqT.of ht⟩, fun D hD => lc_tup (K := K) (a := t) (xs := us) (fun j H' => Same H H' ∧ H' D = some (.lst ((barOf (ps.take j) row).map natV))) ⟨same_new hD, upd_same⟩ (fun j H' _ z => SqT.of (z.1 _ _ ht)) ?_ ?_⟩
      · rintro j v H' hj ⟨s', hD'⟩
        obtain ⟨p, tp, hp, rfl, htp⟩ := hP.at hj
        have hm := bar_take (row := row) hp
        refine ⟨tp, _, rfl, SqT.of (s' _ _ htp), rfl, _, _, rfl, _, _, rfl, rfl, rfl, _, rfl, _, rfl, r, _, rfl, .inr (SqT.of (s' _ _ hr')), _, _, rfl, rfl, _, rfl, ?_⟩
        by_cases c : p.2 = row.length
        · rw [if_pos (beq_iff_eq.mpr c)] at hm
          have lt := hlt p (List.mem_of_getElem? hp)
          have ea : (row.map natV)[p.1]? = some (natV (row.getD p.1 0)) := by
            rw [List.getElem?_map, List.getElem?_eq_getElem (by omega), List.getD_eq_getElem?_getD, List.getElem?_eq_getElem (by omega)]
            rfl
          refine iteT' (by simp; omega) ⟨_, rfl, _, rfl, r, _, (p.1 : Int), _, rfl, rfl, SqT.of (s' _ _ hr'), atI_nat ea, _, hD', ?_, same_upd s' hD, by rw [hm, List.map_append, upd_same]; rfl⟩
          rw [List.length_map]
          refine Nat.lt_of_le_of_lt bar_len ?_
          rw [List.length_take]
          show _ < 2 ^ 24
          omega
        · rw [if_neg (by simpa using c), List.append_nil] at hm
          exact iteF' (by simp; omega) ⟨s', by rw [hm]; exact hD'⟩
      · rintro H1 ⟨s1, hD1⟩
        rw [hP.len, List.take_length] at hD1
        refine ⟨_, rfl, _, rfl, by omega, by omega, ?_⟩
        refine for_range (n := k) (fun i σ H' => Same H1 H' ∧ (∃ x7 x8, σ = [some (.ref t), some (natV n), some (natV k), some (.ref r), some (.ref D), none, none, x7, x8]) ∧ ∀ j, j < i → (if okH (Eps ps) row j = true then frow (Eps ps) k m (row ++ [j]) else none) = none)
          ⟨Same.refl _, ⟨_, _, rfl⟩, fun j hj => absurd hj (Nat.not_lt_zero _)⟩ ?_ ?_
        · rintro i σ H' hi ⟨s', ⟨x7, x8, rfl⟩, hno⟩
          have ei : (0 : Int) + (i : Int) = (i : Int) := by omega
          rw [ei]
          refine ⟨_, rfl, _, rfl, D, _, rfl, .inl (SqL.of (s' _ _ hD1)), rfl, flat_nats _, _, rfl, ?_⟩
          have e1 : inV (natV i) ((barOf ps row).map natV) = (barOf ps row).contains i := inV_nat _ _
          have e2 : (!inV (natV i) ((barOf ps row).map natV)) = okH (Eps ps) row i := by
            rw [e1, okH_bar hlt, Bool.not_not]
          show (if (!inV (natV i) ((barOf ps row).map natV)) = true then _ else _)
          rw [e2]
          cases c : okH (Eps ps) row i with
          | false =>
            refine iteF' rfl ⟨s', ⟨_, _, rfl⟩, fun j hj => ?_⟩
            by_cases q : j < i
            · exact hno j q
            · rw [show j = i by omega, if_neg (by rw [c]; decide)]
          | true =>
            refine iteT' rfl ⟨_, rfl, _, rfl, _, rfl, _, rfl, _, rfl, (by show 1 ≤ sizeLine; decide), fun T hT => ?_⟩
            have s1' := s1.trans s'
            have sT := same_new (o := .tup [natV i]) hT
            refine cat_q (ys := [natV i]) (s1' _ _ hr') upd_same (by rw [List.length_map, List.length_singleton]; show _ ≤ 2 ^ 24; omega) sT fun r2 H3 s3 hr2 => ?_
            have s13 := s1'.trans s3
            refine ⟨t, r2, us, ps, n, k, row ++ [i], rfl, s13 _ _ ht, hP.same s13, hl, hlt, by rw [hr2, List.map_append]; rfl, by rw [List.length_append, List.length_singleton]; omega, n12, k12, fun v H5 s5 hv => ?_⟩
            have s15 := s13.trans s5
            rcases hv with ⟨e, rfl⟩ | ⟨l, tl, e, rfl, htl⟩
            · refine ⟨_, rfl, rfl, _, rfl, iteF' rfl ⟨(s'.trans s3).trans s5, ⟨_, _, rfl⟩, fun j hj => ?_⟩⟩
              by_cases q : j < i
              · exact hno j q
              · rw [show j = i by omega, if_pos c]
                exact e
            · refine ⟨_, rfl, rfl, _, rfl, iteT' rfl ⟨_, rfl, kk _ H5 s15 (.inr ⟨l, tl, ?_, rfl, htl⟩)⟩⟩
              exact firstS_some.mpr ⟨i, hi, by rw [if_pos c]; exact e, hno⟩
        · rintro σ H' ⟨s', ⟨x7, x8, rfl⟩, hno⟩
          exact kk _ H' (s1.trans s') (.inl ⟨firstS_none.mpr hno, rfl⟩)
end
end K16

set_option maxRecDepth 100000
set_option maxHeartbeats 8000000
namespace K16
open PySem PySem.Spec PyProof.Rows L2 Kw
section
variable {P : Program} {w : World} {K : PySem.W.Frag} {mg : Str → Option Value} {base : Heap} {f fA fR fH fW fN fC fL C Cn : Addr} {fd fdA fdR fdH fdW fdN fdC fdL : FuncData}
def spFRowA : Sp := fun vs H Q E => ∃ m, m ≤ 12 ∧ spFRow m vs H Q E
theorem ok_frowA (F : FnP K "first_row" 31 f fd) (B : Fr mg) (mF : mg "first_row" = some (.ref f)) : FnOk P w K mg base CX0 14 f fd ["pairs", "many", "k", "row"] spFRowA :=
  ⟨fun vs H Q E ⟨m, _, h⟩ => (ok_frow (P := P) (w := w) (base := base) F B mF m).len vs H Q E h, fun A outer s H args us vs Q E hr he hb hv ⟨m, hm, h⟩ => ((ok_frow (P := P) (w := w) (base := base) F B mF m).mono (by omega)).run A outer s H args us vs Q E hr he hb hv h⟩
def huesOf (ps : List (Nat × Nat)) (n : Nat) : Option (List Nat) := firstS n fun k => frow (Eps ps) (k + 1) n []
def spFHues : Sp := fun vs H Q _ => ∃ (t : Addr) (us : List V) (ps : List (Nat × Nat)) (n : Nat), vs = [.ref t, natV n] ∧ H t = some (.tup us) ∧ PairsAt H us ps ∧ ps.length ≤ 1000 ∧ (∀ p ∈ ps, p.1 < p.2) ∧ n ≤ 12 ∧
  ∀ v H', Same H H' → OptTup H' v (huesOf ps n) → Q v H'
theorem sc_fhues : FnScope ["pairs", "many", "k", "row"] ["pairs", "many"] (defScope (top 30)) := ⟨rfl, rfl, rfl, by decide +kernel, rfl, by decide +kernel, by decide +kernel⟩
theorem ok_fhues (F : FnP K "first_hues" 30 f fd) (B : Fr mg) (FR : FnP K "first_row" 31 fR fdR) (mR : mg "first_row" = some (.ref fR)) : FnOk P w K mg base CX0 15 f fd ["pairs", "many"] spFHues := by
  have GR : FnOk P w K mg base CX0 14 fR fdR ["pairs", "many", "k", "row"] spFRowA := ok_frowA FR B mR
  have bR : L2.Binds K fdR ["pairs", "many", "k", "row"] [] := FR.bindsN fun _ _ _ _ _ _ us hl => match us, hl with | [_, _, _, _], _ => rfl
  refine F.ok sc_fhues (fun vs H Q E h => ?_) (fun cdv A outer s H vs Q E hr h => ?_)
  · obtain ⟨t, us, ps, n, rfl, _⟩ := h
    rfl
  · obtain ⟨t, us, ps, n, rfl, ht, hP, hl, hlt, n12, kk⟩ := h
    refine ⟨_, PSs.nox (pss_cons (ps_for PassesOwn.never rfl (pi_range2 (by rfl) B.range (pa_cons pe_int (pa_cons (pe_op op_add (pv 1) pe_int) pa_nil))) (pg_name (i := 2) sc_fhues.nd rfl (Or.inl rfl))
        (pss_cons (ps_set (i := 3) sc_fhues.nd rfl (Or.inl rfl) (pe_call GR hr (by rfl) mR FR.kp bR .nil pass0 (pa_cons (pv 0) (pa_cons (pv 1) (pa_cons (pv 2) (pa_cons (pe_tup pa_nil) pa_nil))))))
          (pss_one (ps_if (pt_cmpR op_notN (pv 3) pe_non (nomark _)) (pss_one (ps_ret (pv 3))) pss_nil))))
      (pss_one (ps_ret pe_non))), ?_⟩
    refine ⟨_, rfl, _, _, rfl, rfl, 1, _, rfl, ⟨by omega, by omega, by omega, by omega⟩, ?_⟩
    refine for_range (lo := 1) (n := ((n : Int) + 1 - 1).toNat) (fun i σ H' => Same H H' ∧ (∃ x2 x3, σ = [some (.ref t), some (natV n), x2, x3]) ∧ ∀ j, j < i → frow (Eps ps) (j + 1) n [] = none)
      ⟨Same.refl _, ⟨_, _, rfl⟩, fun j hj => absurd hj (Nat.not_lt_zero _)⟩ ?_ ?_
    · rintro i σ H' hi ⟨s', ⟨x2, x3, rfl⟩, hno⟩
      have ei : (1 : Int) + (i : Int) = ((i + 1 : Nat) : Int) := by omega
      rw [ei]
      refine ⟨_, rfl, _, rfl, _, rfl, (by show 0 ≤ sizeLine; decide), fun T hT => ?_⟩
      have sT := same_new (o := .tup []) hT
      have s0 := s'.trans sT
      refine ⟨n, n12, t, T, us, ps, n, i + 1, [], rfl, s0 _ _ ht, hP.same s0, hl, hlt, upd_same, by simp, n12, by omega, fun v H5 s5 hv => ?_⟩
      have s05 := s0.trans s5
      rcases hv with ⟨e, rfl⟩ | ⟨l, tl, e, rfl, htl⟩
      · refine ⟨_, rfl, rfl, _, rfl, iteF' rfl ⟨s05, ⟨_, _, rfl⟩, fun j hj => ?_⟩⟩
        by_cases q : j < i
        · exact hno j q
        · rw [show j = i by omega]
          exact e
      · refine ⟨_, rfl, rfl, _, rfl, iteT' rfl ⟨_, rfl, kk _ H5 s05 (.inr ⟨l, tl, ?_, rfl, htl⟩)⟩⟩
        exact firstS_some.mpr ⟨i, by omega, e, hno⟩
    · rintro σ H' ⟨s', ⟨x2, x3, rfl⟩, hno⟩
      exact kk _ H' s' (.inl ⟨firstS_none.mpr fun j hj => hno j (by omega), rfl⟩)
def spFewest (C : Addr) : Sp := fun vs H Q _ => ∃ (p : Addr) (ds : List Ent), vs = [.ref p] ∧ WorldAt H p C ds ∧ DsOk ds ∧ ds.length ≤ 8 ∧
  ∀ v H' ps, Same H H' → SortP ps → (∀ a b, (a, b) ∈ ps ↔ Rival (kins (elsOf ds)) a b) → OptTup H' v (huesOf ps ds.length) → Q v H'
theorem sc_fewest : FnScope ["world", "many"] ["world"] (defScope (top 29)) := ⟨rfl, rfl, rfl, by decide +kernel, rfl, by decide +kernel, by decide +kernel⟩
theorem ok_fewest (F : FnP K "fewest_hues" 29 f fd) (B : Fr mg) (TC : ClsWorld K mg C) (z8 : ∃ t, mg "MOST_FOR_HUES" = some (.int 8 t)) (FR : FnP K "first_hues" 30 fR fdR) (mR : mg "first_hues" = some (.ref fR)) (GR : FnOk P w K mg base CX0 15 fR fdR ["pairs", "many"] spFHues) (FA : FnP K "apart_pairs" 28 fA fdA) (mA : mg "apart_pairs" = some (.ref fA)) (GA : FnOk P w K mg base CX0 5 fA fdA ["world"] (spApart C)) :
    FnOk P w K mg base CX0 16 f fd ["world"] (spFewest C) := by
  have bR : L2.Binds K fdR ["pairs", "many"] [] := FR.bindsN fun _ _ _ _ _ _ us hl => match us, hl with | [_, _], _ => rfl
  have bA : L2.Binds K fdA ["world"] [] := FA.bindsN fun _ _ _ _ _ _ us hl => match us, hl with | [_], _ => rfl
  obtain ⟨t8, z8⟩ := z8
  refine F.ok sc_fewest (fun vs H Q E h => ?_) (fun cdv A outer s H vs Q E hr h => ?_)
  · obtain ⟨p, ds, rfl, _⟩ := h
    rfl
  · obtain ⟨p, ds, rfl, hw, ok, n8, kk⟩ := h
    refine ⟨_, PSs.nox (pss_cons (ps_set (i := 1) sc_fewest.nd rfl (Or.inl rfl) (pe_callB call_len_seq (by rfl) B.len PySem.boot_len (pa_cons (pe_fld (pv 0) rfl) pa_nil)))
      (pss_cons (ps_if (pt_cmp (pc_gt (pv 1) (pe_glob (v := .int 8) (by rfl) z8 ⟨_, rfl⟩))) (pss_one ps_never) pss_nil)
      (pss_one (ps_ret (pe_call GR hr (by rfl) mR FR.kp bR .nil pass0 (pa_cons (pe_call GA (hr.mono (by decide)) (by rfl) mA FA.kp bA .nil pass0 (pa_cons (pv 0) pa_nil)) (pa_cons (pv 1) pa_nil))))))), ?_⟩
    have hw0 := hw
    obtain ⟨dx, ac, ab, ao, am, ae, ah, cs, bs, ms, es, hs, h1, h2, h3, _⟩ := hw
    have lcs : cs.length = ds.length := h3.len
    refine ⟨_, rfl, p, C, dx, _, _, rfl, h1, TC.cl, TC.no _ (List.mem_of_getElem? (i := 0) rfl), rfl, ac, cs, rfl, .inr (SqT.of h2), ?_⟩
    rw [lcs]
    refine ⟨_, rfl, _, _, rfl, rfl, _, rfl, iteF' (by simp; omega) ?_⟩
    refine ⟨_, rfl, p, ds, rfl, hw0, ok, by omega, fun t H' us ps s1 ht hP hl hso hps => ⟨_, rfl, t, us, ps, ds.length, rfl, ht, hP, hl, fun q hq => ((hps q.1 q.2).mp hq).1, by omega, fun v H2 s2 hv => kk v H2 ps (s1.trans s2) hso hps hv⟩⟩
end
end K16

set_option maxRecDepth 100000
set_option maxHeartbeats 8000000
namespace K16
open PySem PySem.Spec PyProof.Rows L2 Kw
/-- x in t, t a tuple of data -/
def rInDT (K : PySem.W.Frag) : R2 := fun x y H Q => ∃ d ds, Dp K H x d ∧ Dp K H y (.tuple ds) ∧ SeqAt.shaped d = true ∧ SeqAt.shaped (.tuple ds) = true ∧ Q (.bl (ds.any fun z => PyData.eqv z d)) H
theorem op_inDT {X : Cx} (hu : X.A.units + 65 < cLine) : OpR X (compareOp .In) (rInDT X.K) := by
  intro pins s σ H x y v u Q I rx ry h
  obtain ⟨d, ds, hd, he, sd, se, q⟩ := h
  obtain ⟨as, r1⟩ := Dp.reads I d x v hd rx
  obtain ⟨bs, r2⟩ := Dp.reads I (.tuple ds) y u he ry
  exact SeqAt.in_tuple_reads r2 r1 (SeqAt.canLay_of_shaped se) (SeqAt.canLay_of_shaped sd) (room_in_shaped sd hu) ⟨.bl _, H, I, rfl, q⟩
theorem lay_pairsT (ps : List (Nat × Nat)) : LayD 2 (.tuple (ps.map dPair)) := LayD.tup fun d hd => by
  obtain ⟨p, _, rfl⟩ := List.mem_map.mp hd
  exact lay_pair p
theorem TupsAt.keep {H H' : Hp} {R : Addr} {us0 : List V} (hR : H R = some (.lst us0)) (s : Oth R H H') {us : List V} {ls : List (List Nat)} (h : TupsAt H us ls) : TupsAt H' us ls :=
  h.mono fun b xs e => s b _ (fun z => by rw [z, hR] at e; cases e) e
theorem TupsAt.at {H : Hp} {us : List V} {ls : List (List Nat)} (h : TupsAt H us ls) {j : Nat} {v : V} (hv : us[j]? = some v) : ∃ l t, ls[j]? = some l ∧ v = .ref t ∧ H t = some (.tup (l.map natV)) := by
  have hj : j < ls.length := by
    rw [← h.len]
    exact (List.getElem?_eq_some_iff.mp hv).1
  obtain ⟨t, e, ht⟩ := h.get (List.getElem?_eq_getElem hj)
  rw [hv] at e
  exact ⟨_, t, List.getElem?_eq_getElem hj, Option.some.inj e, ht⟩
def lotRow (E : Nat → Nat → Bool) (n : Nat) (lot : List Nat) : List (List Nat) := ((List.range' (lot.getLastD 0 + 1) (n - (lot.getLastD 0 + 1))).filter fun c => lot.all fun k => E k c).map fun c => lot ++ [c]
theorem plots_succ {E : Nat → Nat → Bool} {n m : Nat} : plots E n (m + 1) = (plots E n m).flatMap (lotRow E n) := rfl
theorem plots_len {E : Nat → Nat → Bool} {n m : Nat} : (plots E n m).length ≤ 2 ^ n := by
  have nd : (plots E n m).Nodup := (plots_up m).imp fun {a b} h e => by
    rw [e, lx_refl] at h
    cases h
  exact Nat.le_trans (nodup_sub_len'' nd (ns := llots E n) fun l hl => mem_llots.mpr (mem_plots.mp hl).2) (llots_len n)
section
variable {P : Program} {w : World} {K : PySem.W.Frag} {mg : Str → Option Value} {base : Heap} {f fA fR fH fW fN fC fL C Cn : Addr} {fd fdA fdR fdH fdW fdN fdC fdL : FuncData}
def spLonger : Sp := fun vs H Q _ => ∃ (t L : Addr) (us lus : List V) (ps : List (Nat × Nat)) (n m : Nat), vs = [.ref t, .ref L, natV n] ∧ H t = some (.tup us) ∧ PairsAt H us ps ∧ H L = some (.lst lus) ∧ TupsAt H lus (plots (Eps ps) n m) ∧ n ≤ 8 ∧
  ∀ R H' rus, Same H H' → H' R = some (.lst rus) → TupsAt H' rus (plots (Eps ps) n (m + 1)) → Q (.ref R) H'
theorem sc_longer : FnScope ["pairs", "lots", "many", "lot", "c", "k"] ["pairs", "lots", "many"] (defScope (top 33)) := ⟨rfl, rfl, rfl, by decide +kernel, rfl, by decide +kernel, by decide +kernel⟩
theorem ok_longer (F : FnP K "longer_lots" 33 f fd) (B : Fr mg) (za : mg "all" = none) : FnOk P w K mg base CX0 1 f fd ["pairs", "lots", "many"] spLonger := by
  refine F.ok sc_longer (fun vs H Q E h => ?_) (fun cdv A outer s H vs Q E hr h => ?_)
  · obtain ⟨t, L, us, lus, ps, n, m, rfl, _⟩ := h
    rfl
  · obtain ⟨t, L, us, lus, ps, n, m, rfl, ht, hP, hL, hT, n8, kk⟩ := h
    refine ⟨_, PSs.nox (pss_one (ps_ret (pe_lc2 (own := [("lot", 3), ("c", 4)]) (vs1 := [4]) (g := gName 3) (g1 := gName 4) (wi1 := iRng2 (tCons (tOp (rI0 fun i j => V.int (i + j)) (tOp (rIxT K) (tVar 3) (tUn (rU fun i => V.int (-i)) (tC (.int 1)))) (tC (.int 1))) (tCons (tVar 2) tNil))) (tt1 := tB (tCB (rAll K) (tCons (tLc (iTup K (tVar 3)) (gName 5) tYes (tOp (rInDT K) (tTup (tCons (tVar 5) (tCons (tVar 4) tNil))) (tVar 0)) [5]) tNil))) (te := tOp (rCatQ K) (tVar 3) (tTup (tCons (tVar 4) tNil))) rfl sc_longer.nd (pi_list (pv 1)) (blkOk_by (N := ["pairs", "lots", "many", "lot", "c", "k"]) (sc := defScope (top 33)) (by decide +kernel)) (by decide)
          (fun _ _ _ _ _ => pg_name (i := 3) sc_longer.nd rfl (Or.inl rfl)) (fun _ _ _ _ _ => pts_nil)
          (fun _ _ _ _ _ => ?wi)
          (fun _ _ _ _ _ => pg_name (i := 4) sc_longer.nd rfl (Or.inr rfl))
          (fun _ _ _ _ _ => ?tt1)
          (fun _ _ _ _ _ => ?te2)))), ?_⟩
    case wi => exact pi_range2 (by rfl) B.range (pa_cons (pe_op op_add (pe_ix (r := rIxT K) ix_tup (pv 3) (pe_un un_neg pe_int) (fun _ _ => rfl)) pe_int) (pa_cons (pv 2) pa_nil))
    case te2 => exact pe_op (r := rCatQ K) op_catQ (pv 3) (pe_tup (pa_cons (pv 4) pa_nil))
    case tt1 =>
      refine pts_one (pt_val (pe_callB (id := "all") (r := rAll K) (cr_all (X := _) rfl) (by rfl) za PyProof.Rows.boot_all (pa_cons ?_ pa_nil)))
      refine pe_lc (own := [("k", 5)]) (g := gName 5) (tt := tYes) rfl sc_longer.nd (pi_tup (pv 3)) (blkOk_by (by rfl)) (fun _ _ _ _ _ => pg_name (i := 5) sc_longer.nd rfl (Or.inl rfl)) (fun _ _ _ _ _ => pts_nil) (fun _ _ _ _ _ => ?_)
      exact pe_cmpR (r := rInDT K) (op_inDT (room65 hr)) (pe_tup (pa_cons (pv 5) (pa_cons (pv 4) pa_nil))) (pv 0) (by rfl)
    refine ⟨_, rfl, L, rfl, ⟨_, SqL.of hL⟩, fun D hD => lc2_outL (K := K) (a := L) (xs := lus) (fun i H' => Same H H' ∧ ∃ xs, H' D = some (.lst xs) ∧ TupsAt H' xs (((plots (Eps ps) n m).take i).flatMap (lotRow (Eps ps) n)) ∧ xs.length ≤ n * i) ⟨same_new hD, [], upd_same, .nil, Nat.zero_le _⟩ (fun i H' _ z => SqL.of (z.1 _ _ hL)) ?_ ?_⟩
    · rintro i v H2 hi ⟨s2, xs, hDx, hX, hxl⟩ Nx hNx
      obtain ⟨lot, tl, hlot, rfl, htl⟩ := hT.at hi
      obtain ⟨lm, lc⟩ := mem_plots.mp (List.mem_of_getElem? hlot)
      have il := (List.getElem?_eq_some_iff.mp hlot).1
      have i256 : i < 256 := Nat.lt_of_lt_of_le il (Nat.le_trans plots_len (Nat.pow_le_pow_right (by decide) n8))
      have ne : lot ≠ [] := fun z => by rw [z] at lm; cases lm
      obtain ⟨x, ex, elot⟩ : ∃ x, lot.getLastD 0 = x ∧ lot = lot.dropLast ++ [x] := ⟨lot.getLast ne, by rw [List.getLastD_eq_getLast?, List.getLast?_eq_some_getLast ne]; rfl, (List.dropLast_concat_getLast ne).symm⟩
      have xn : x < n := lc.2 x (by rw [elot]; exact List.mem_append_right _ List.mem_cons_self)
      have eat : atI (lot.map natV) (-1) = some (natV x) := by
        rw [elot, List.map_append]
        exact atI_last _ _
      have llen : lot.length ≤ 8 := Nat.le_trans (clq_len lc) n8
      refine ⟨rfl, _, rfl, _, rfl, tl, _, _, _, rfl, rfl, SqT.of (s2 _ _ htl), eat, _, _, rfl, rfl, _, rfl, _, _, rfl, ⟨by omega, by omega, by omega, by omega⟩, ?_⟩
      refine lc2_in (lo := (x : Int) + 1) (m := ((n : Int) - ((x : Int) + 1)).toNat) (fun j H' => Same H H' ∧ ∃ xs, H' D = some (.lst xs) ∧ TupsAt H' xs (((plots (Eps ps) n m).take i).flatMap (lotRow (Eps ps) n) ++ ((List.range' (x + 1) j).filter fun c => lot.all fun k => Eps ps k c).map fun c => lot ++ [c]) ∧ xs.length ≤ n * i + j)
        ⟨s2, xs, hDx, by simpa using hX, hxl⟩ ?_ ?_
      · rintro j H3 hj ⟨s3, xs, hDx, hX, hxl⟩
        obtain ⟨c, ec, cn⟩ : ∃ c : Nat, (x : Int) + 1 + (j : Int) = (c : Int) ∧ c = x + 1 + j := ⟨x + 1 + j, by omega, rfl⟩
        rw [ec]
        have step : (List.range' (x + 1) (j + 1)).filter (fun c => lot.all fun k => Eps ps k c) = (List.range' (x + 1) j).filter (fun c => lot.all fun k => Eps ps k c) ++ (if (lot.all fun k => Eps ps k c) = true then [c] else []) := by
          rw [List.range'_1_concat, List.filter_append, ← cn]
          congr 1
          cases q : lot.all fun k => Eps ps k c with
          | true => rw [List.filter_cons_of_pos (by exact q)]; rfl
          | false => rw [List.filter_cons_of_neg (by rw [q]; decide)]; rfl
        refine ⟨rfl, _, rfl, tl, rfl, ⟨_, SqT.of (s3 _ _ htl)⟩, fun D2 hD2 => lc_tup (K := K) (a := tl) (xs := lot.map natV) (fun q H' => Same H3 H' ∧ H' D2 = some (.lst (((lot.take q).map fun k => Eps ps k c).map V.bl))) ⟨same_new hD2, upd_same⟩ (fun q H' _ z => SqT.of (z.1 _ _ (s3 _ _ htl))) ?_ ?_⟩
        · rintro q y H4 hq ⟨s4, hD4⟩
          rw [List.getElem?_map] at hq
          obtain ⟨k, hk, rfl⟩ := Option.map_eq_some_iff.mp hq
          have tk : lot.take (q + 1) = lot.take q ++ [k] := by
            rw [List.take_add_one, hk]
            rfl
          have ea : ((ps.map dPair).any fun z => PyData.eqv z (dPair (k, c))) = Eps ps k c := any_pair ps (k, c)
          refine ⟨rfl, _, rfl, _, rfl, (by show 2 ≤ sizeLine; decide), fun T hT => ?_⟩
          have sT := same_new (o := .tup [natV k, natV c]) hT
          have s4T := (s3.trans s4).trans sT
          refine ⟨_, rfl, dPair (k, c), ps.map dPair, .tup (SqT.of upd_same) (.cons (.int _) (.cons (.int _) .nil)), .tup (SqT.of (s4T _ _ ht)) (dp_pairs (hP.same s4T)), (lay_pair _).shaped (by decide), (lay_pairsT _).shaped (by decide), _, sT _ _ hD4, ?_, same_upd (s4.trans sT) hD2, ?_⟩
          · rw [List.length_map, List.length_map, List.length_take]
            show _ < 2 ^ 24
            omega
          · rw [upd_same, tk, List.map_append, List.map_append, ea]
            rfl
        · rintro H4 ⟨s4, hD4⟩
          rw [List.length_map, List.take_length] at hD4
          refine ⟨D2, lot.map fun k => Eps ps k c, rfl, SqL.of hD4, _, rfl, ?_⟩
          have eal : (lot.map fun k => Eps ps k c).all id = lot.all fun k => Eps ps k c := by rw [List.all_map]; rfl
          rw [eal]
          have s34 := s3.trans s4
          cases q : lot.all fun k => Eps ps k c with
          | true =>
            rw [q, if_pos rfl] at step
            refine iteT' rfl ⟨_, rfl, _, rfl, (by show 1 ≤ sizeLine; decide), fun T hT => ?_⟩
            have sT := same_new (o := .tup [natV c]) hT
            refine cat_q (ys := [natV c]) (s34 _ _ htl) upd_same (by rw [List.length_map, List.length_singleton]; show _ ≤ 2 ^ 24; omega) sT fun r2 H5 s5 hr2 => ?_
            have s45 := s4.trans s5
            have hD5 := s45 _ _ hDx
            refine ⟨xs, hD5, ?_, same_upd (s3.trans s45) hD, xs ++ [.ref r2], upd_same, ?_, by rw [List.length_append, List.length_singleton]; omega⟩
            · have : n * i ≤ 8 * i := Nat.mul_le_mul_right _ n8
              show _ < 2 ^ 24
              omega
            · have rD : r2 ≠ D := fun z => by
                rw [z, hD5] at hr2
                cases hr2
              rw [step, List.map_append, ← List.append_assoc]
              refine TupsAt.app (TupsAt.keep hD5 (Oth.upd (Oth.of (Same.refl _))) (hX.same s45)) (.cons ⟨r2, rfl, upB rD ?_⟩ .nil)
              rw [hr2, List.map_append]
              rfl
          | false =>
            rw [q, if_neg (by decide), List.append_nil] at step
            exact iteF' rfl ⟨s34, xs, s4 _ _ hDx, by rw [step]; exact hX.same s4, by omega⟩
      · rintro H3 ⟨s3, xs, hDx, hX, hxl⟩
        refine hNx _ ⟨s3, xs, hDx, ?_, by rw [Nat.mul_add, Nat.mul_one]; omega⟩
        rw [List.take_add_one, hlot, List.flatMap_append]
        have e1 : (some lot).toList.flatMap (lotRow (Eps ps) n) = lotRow (Eps ps) n lot := by simp
        rw [e1]
        unfold lotRow
        rw [ex, show n - (x + 1) = ((n : Int) - ((x : Int) + 1)).toNat by omega]
        exact hX
    · rintro H2 ⟨s2, xs, hDx, hX, hxl⟩
      rw [hT.len, List.take_length] at hX
      exact kk D H2 xs s2 hDx hX
end
end K16

set_option maxRecDepth 100000
set_option maxHeartbeats 8000000
namespace K16
open PySem PySem.Spec PyProof.Rows L2 Kw
section
variable {P : Program} {w : World} {K : PySem.W.Frag} {mg : Str → Option Value} {base : Heap} {f fA fR fH fW fN fC fL C Cn : Addr} {fd fdA fdR fdH fdW fdN fdC fdL : FuncData}
def spFloor (C : Addr) : Sp := fun vs H Q _ => ∃ (p : Addr) (ds : List Ent), vs = [.ref p] ∧ WorldAt H p C ds ∧ DsOk ds ∧ 1 ≤ ds.length ∧ ds.length ≤ 8 ∧
  ∀ t H' ps l, Same H H' → SortP ps → (∀ a b, (a, b) ∈ ps ↔ Rival (kins (elsOf ds)) a b) → H' t = some (.tup (l.map natV)) → LongL (Eps ps) ds.length l → Q (.ref t) H'
theorem sc_floor : FnScope ["world", "many", "pairs", "lot", "longer", "c"] ["world"] (defScope (top 32)) := ⟨rfl, rfl, rfl, by decide +kernel, rfl, by decide +kernel, by decide +kernel⟩
theorem ok_floor (F : FnP K "floor_lot" 32 f fd) (B : Fr mg) (TC : ClsWorld K mg C) (z8 : ∃ t, mg "MOST_FOR_HUES" = some (.int 8 t)) (FL : FnP K "longer_lots" 33 fL fdL) (mL : mg "longer_lots" = some (.ref fL)) (GL : FnOk P w K mg base CX0 1 fL fdL ["pairs", "lots", "many"] spLonger) (FA : FnP K "apart_pairs" 28 fA fdA) (mA : mg "apart_pairs" = some (.ref fA)) (GA : FnOk P w K mg base CX0 5 fA fdA ["world"] (spApart C)) :
    FnOk P w K mg base CX0 6 f fd ["world"] (spFloor C) := by
  have bL : L2.Binds K fdL ["pairs", "lots", "many"] [] := FL.bindsN fun _ _ _ _ _ _ us hl => match us, hl with | [_, _, _], _ => rfl
  have bA : L2.Binds K fdA ["world"] [] := FA.bindsN fun _ _ _ _ _ _ us hl => match us, hl with | [_], _ => rfl
  obtain ⟨t8, z8⟩ := z8
  refine F.ok sc_floor (fun vs H Q E h => ?_) (fun cdv A outer s H vs Q E hr h => ?_)
  · obtain ⟨p, ds, rfl, _⟩ := h
    rfl
  · obtain ⟨p, ds, rfl, hw, ok, n1, n8, kk⟩ := h
    refine ⟨_, PSs.nox (pss_cons (ps_set (i := 1) sc_floor.nd rfl (Or.inl rfl) (pe_callB call_len_seq (by rfl) B.len PySem.boot_len (pa_cons (pe_fld (pv 0) rfl) pa_nil)))
      (pss_cons (ps_if (pt_cmp (pc_gt (pv 1) (pe_glob (v := .int 8) (by rfl) z8 ⟨_, rfl⟩))) (pss_one ps_never) pss_nil)
      (pss_cons (ps_set (i := 2) sc_floor.nd rfl (Or.inl rfl) (pe_call GA hr (by rfl) mA FA.kp bA .nil pass0 (pa_cons (pv 0) pa_nil)))
      (pss_cons (ps_set (i := 3) sc_floor.nd rfl (Or.inl rfl) (pe_tup (pa_cons pe_int pa_nil)))
      (pss_cons (ps_setLc (i := 4) (own := [("c", 5)]) (g := gName 5) (tt := tYes) rfl sc_floor.nd rfl rfl (sw_true rfl rfl rfl (by decide +kernel)) (pi_range1 (by rfl) B.range (pa_cons (pv 1) pa_nil)) (blkOk_by (N := ["world", "many", "pairs", "lot", "longer", "c"]) (sc := defScope (top 32)) (by decide +kernel))
          (fun _ _ _ _ _ => pg_name (i := 5) sc_floor.nd rfl (Or.inl rfl)) (fun _ _ _ _ _ => pts_nil) (fun _ _ _ _ _ => pe_tup (pa_cons (pv 5) pa_nil)))
      (pss_cons (ps_while PassesOwn.never (pt_cmp (pc_gt (pe_callB call_len_seq (by rfl) B.len PySem.boot_len (pa_cons (pv 4) pa_nil)) pe_int))
          (pss_cons (ps_set (i := 3) sc_floor.nd rfl (Or.inl rfl) (pe_ix (r := rIxL K) ix_list (pv 4) pe_int (fun _ _ => rfl)))
          (pss_one (ps_set (i := 4) sc_floor.nd rfl (Or.inl rfl) (pe_call GL (hr.mono (by decide)) (by rfl) mL FL.kp bL .nil pass0 (pa_cons (pv 2) (pa_cons (pv 4) (pa_cons (pv 1) pa_nil))))))))
      (pss_one (ps_ret (pv 3))))))))), ?_⟩
    have hw0 := hw
    obtain ⟨dx, ac, ab, ao, am, ae, ah, cs, bs, ms, es, hs, h1, h2, h3, _⟩ := hw
    have lcs : cs.length = ds.length := h3.len
    refine ⟨_, rfl, p, C, dx, _, _, rfl, h1, TC.cl, TC.no _ (List.mem_of_getElem? (i := 0) rfl), rfl, ac, cs, rfl, .inr (SqT.of h2), ?_⟩
    rw [lcs]
    generalize hn : ds.length = n at n1 n8 kk
    refine ⟨_, rfl, _, _, rfl, rfl, _, rfl, iteF' (by simp; omega) ?_⟩
    refine ⟨_, rfl, p, ds, rfl, hw0, ok, by omega, fun t H1 us ps s1 ht hP hl hso hps => ⟨(by show 1 ≤ sizeLine; decide), fun T hT => ?_⟩⟩
    have sT := s1.trans (same_new (o := .tup [.int 0]) hT)
    have htT := same_new (o := .tup [.int 0]) hT _ _ ht
    have hPT := hP.same (same_new (o := .tup [.int 0]) hT)
    generalize upd H1 T (.tup [.int 0]) = H2 at sT htT hPT
    refine ⟨_, rfl, _, rfl, by omega, by omega, fun D hD => lc_range (n := n) (fun i H' => Same H2 H' ∧ ∃ xs, H' D = some (.lst xs) ∧ TupsAt H' xs ((List.range i).map fun c => [c])) ⟨same_new hD, [], upd_same, .nil⟩ ?_ ?_⟩
    · rintro i H3 hi ⟨s3, xs, hDx, hX⟩
      have ei : (0 : Int) + (i : Int) = (i : Int) := by omega
      rw [ei]
      refine ⟨rfl, _, rfl, (by show 1 ≤ sizeLine; decide), fun U hU => ⟨xs, same_new hU _ _ hDx, ?_, ?_⟩⟩
      · have := hX.len
        rw [List.length_map, List.length_range] at this
        rw [this]
        show _ < 2 ^ 24
        omega
      · have sU := same_new (o := .tup [natV i]) hU
        have hDU := sU _ _ hDx
        have UD : U ≠ D := fun z => by
          rw [z, hDx] at hU
          cases hU
        refine ⟨same_upd (s3.trans sU) hD, xs ++ [.ref U], upd_same, ?_⟩
        rw [List.range_succ, List.map_append]
        exact TupsAt.app (TupsAt.keep hDU (Oth.upd (Oth.of (Same.refl _))) (hX.same sU)) (.cons ⟨U, rfl, upB UD upd_same⟩ .nil)
    · rintro H3 ⟨s3, xs, hDx, hX⟩
      have s03 := sT.trans s3
      refine ⟨fun k σ H' => ∃ (m : Nat) (lotV : V) (L : Addr) (lus : List V) (x5 : Option V), k + m = n + 1 ∧ σ = [some (.ref p), some (natV n), some (.ref t), some lotV, some (.ref L), x5] ∧ Same H3 H' ∧ H' L = some (.lst lus) ∧ TupsAt H' lus (plots (Eps ps) n m) ∧ (m = 0 ∨ ∃ m' l tl rest, m = m' + 1 ∧ plots (Eps ps) n m' = l :: rest ∧ lotV = .ref tl ∧ H' tl = some (.tup (l.map natV))), ⟨n + 1, 0, _, D, xs, _, by omega, rfl, Same.refl _, hDx, hX, .inl rfl⟩, ?_⟩
      rintro k σ H4 ⟨m, lotV, L, lus, x5, hk, rfl, s4, hL, hLt, hlot⟩
      refine ⟨_, rfl, L, lus, rfl, .inl (SqL.of hL), _, _, rfl, rfl, ?_⟩
      have eln : lus.length = (plots (Eps ps) n m).length := hLt.len
      refine ⟨_, rfl, ?_⟩
      cases hpl : plots (Eps ps) n m with
      | nil =>
        rw [hpl] at eln
        refine iteF' (by simp [eln]) ?_
        rcases hlot with rfl | ⟨m', l, tl, rest, rfl, e1, rfl, htl⟩
        · have : (plots (Eps ps) n 0).length = n := by
            show ((List.range n).map _).length = n
            rw [List.length_map, List.length_range]
          rw [hpl] at this
          simp at this
          omega
        · exact ⟨_, rfl, kk tl H4 ps l (s03.trans s4) hso hps htl (long_plots e1 hpl)⟩
      | cons l rest =>
        rw [hpl] at eln
        obtain ⟨tl, etl, htl⟩ := hLt.get (i := 0) (l := l) (by rw [hpl]; rfl)
        have mn : m + 1 ≤ n := by
          obtain ⟨a, b⟩ := mem_plots.mp (show l ∈ plots (Eps ps) n m by rw [hpl]; exact List.mem_cons_self)
          have := clq_len b
          omega
        refine iteT' (by simp [eln]) ⟨fun σ' H' => ∃ (lotV : V) (L : Addr) (lus : List V) (x5 : Option V), σ' = [some (.ref p), some (natV n), some (.ref t), some lotV, some (.ref L), x5] ∧ Same H3 H' ∧ H' L = some (.lst lus) ∧ TupsAt H' lus (plots (Eps ps) n (m + 1)) ∧ ∃ tl, lotV = .ref tl ∧ H' tl = some (.tup (l.map natV)), ?_, ?_⟩
        · rintro σ' H' ⟨lotV, L', lus', x5', e1, e2, e3, e4, tl', e5, e6⟩
          exact ⟨k - 1, by omega, m + 1, lotV, L', lus', x5', by omega, e1, e2, e3, e4, .inr ⟨m, l, tl', rest, rfl, hpl, e5, e6⟩⟩
        · refine ⟨_, rfl, L, lus, (0 : Int), _, rfl, rfl, SqL.of hL, atI_nat (j := 0) etl, _, rfl, _, rfl, _, rfl, t, L, us, lus, ps, n, m, rfl, s4 _ _ (s3 _ _ htT), hPT.same (s3.trans s4), hL, hLt, n8, fun R H5 rus s5 hR hRt => ⟨_, R, rus, _, rfl, s4.trans s5, hR, hRt, tl, rfl, s5 _ _ htl⟩⟩
end
end K16

set_option maxRecDepth 100000
set_option maxHeartbeats 8000000
namespace K16
open PySem PySem.Spec PyProof.Rows L2 Kw
theorem topL_get : ∀ r : List Nat, r = [] ∨ ∃ x ∈ r, topL r = x + 1
  | [] => .inl rfl
  | x :: r => by
    right
    rw [topL_cons]
    rcases topL_get r with h | ⟨y, hy, e⟩
    · rw [h]
      exact ⟨x, List.mem_cons_self, by show max (x + 1) 0 = _; omega⟩
    · by_cases q : x + 1 ≤ y + 1
      · exact ⟨y, List.mem_cons_of_mem _ hy, by omega⟩
      · exact ⟨x, List.mem_cons_self, by omega⟩
theorem top_max {row : List Nat} {z m : Int} (hz : z = -1 ∨ (z = 0 ∧ row ≠ [])) (hm : m ∈ row.map (fun (n : Nat) => (n : Int)) ++ [z]) (hle : ∀ y, y ∈ row.map (fun (n : Nat) => (n : Int)) ++ [z] → y ≤ m) : m = (topL row : Int) - 1 := by
  have h1 : m ≤ (topL row : Int) - 1 := by
    rcases List.mem_append.mp hm with h | h
    · obtain ⟨x, hx, rfl⟩ := List.mem_map.mp h
      have := topL_mem hx
      omega
    · have e := List.mem_singleton.mp h
      rcases hz with hz | ⟨hz, ne⟩
      · omega
      · obtain ⟨x, hx⟩ := List.exists_mem_of_ne_nil _ ne
        have := topL_mem hx
        omega
  rcases topL_get row with h | ⟨x, hx, e⟩
  · have h2 := hle z (List.mem_append_right _ List.mem_cons_self)
    rcases hz with hz | ⟨_, ne⟩
    · rw [h] at h1 ⊢
      have : topL [] = 0 := rfl
      omega
    · exact (ne h).elim
  · have := hle (x : Int) (List.mem_append_left _ (List.mem_map.mpr ⟨x, hx, rfl⟩))
    omega
def rowExt (E : Nat → Nat → Bool) (row : List Nat) : List (List Nat) := ((List.range (topL row + 1)).filter fun h => okH E row h).map fun h => row ++ [h]
theorem lrows_succ {E : Nat → Nat → Bool} {c : Nat} : lrows E (c + 1) = (lrows E c).flatMap (rowExt E) := rfl
theorem fct_le : ∀ i, i ≤ 7 → fct i ≤ 5040 := by decide
theorem rowExt_len {E : Nat → Nat → Bool} {row : List Nat} : (rowExt E row).length ≤ topL row + 1 := by
  unfold rowExt
  rw [List.length_map]
  refine Nat.le_trans (List.length_filter_le _ _) ?_
  rw [List.length_range]
  exact Nat.le_refl _
theorem okH_filter {E : Nat → Nat → Bool} {row : List Nat} {h : Nat} : ((List.range row.length).filter fun a => row.getD a 0 == h && E a row.length) = [] ↔ okH E row h = true := by
  rw [okH_iff, List.filter_eq_nil_iff]
  constructor
  · intro z a ha e q
    exact z a (List.mem_range.mpr ha) (by rw [e, beq_iff_eq.mpr q]; rfl)
  · intro z a ha e
    rw [Bool.and_eq_true, beq_iff_eq] at e
    exact z a (List.mem_range.mp ha) e.2 e.1
theorem LsN.of_lists {R : Addr} {H : Hp} (hn : ∀ t o, H t = some o → t ≠ R) : ∀ {vs : List V} {ls : List (List Nat)}, ListsAt H vs ls → LsN R H vs ls
  | [], [], _ => .nil
  | _ :: _, _ :: _, .cons ⟨t, e, h⟩ r => .cons ⟨t, e, hn _ _ h, h⟩ (LsN.of_lists hn r)
theorem dp_lists {K : PySem.W.Frag} {H : Hp} : ∀ {vs : List V} {ls : List (List Nat)}, ListsAt H vs ls → DpAll K H vs (ls.map (dR false))
  | [], [], _ => .nil
  | _ :: _, _ :: _, .cons ⟨t, e, h⟩ r => by
    rw [e]
    exact .cons (.lst (SqL.of h) (dp_nats _)) (dp_lists r)
theorem dp_tupR {K : PySem.W.Frag} {H : Hp} : ∀ {vs : List V} {ls : List (List Nat)}, TupsAt H vs ls → DpAll K H vs (ls.map (dR true))
  | [], [], _ => .nil
  | _ :: _, _ :: _, .cons ⟨t, e, h⟩ r => by
    rw [e]
    exact .cons (.tup (SqT.of h) (dp_nats _)) (dp_tupR r)
theorem row_ints (row : List Nat) (z : Int) : row.map natV ++ [V.int z] = (row.map (fun (n : Nat) => (n : Int)) ++ [z]).map V.int := by
  rw [List.map_append, List.map_map]
  rfl
section
variable {P : Program} {w : World} {K : PySem.W.Frag} {mg : Str → Option Value} {base : Heap} {f : Addr} {fd : FuncData}
def spLHues : Sp := fun vs H Q _ => ∃ (t : Addr) (us : List V) (ps : List (Nat × Nat)) (n : Nat), vs = [.ref t, natV n] ∧ H t = some (.lst us) ∧ PairsAt H us ps ∧ ps.length ≤ 1000 ∧ 1 ≤ n ∧ n ≤ 7 ∧
  ∀ tl H' L l, Same H H' → H' tl = some (.tup (l.map natV)) → FewH (Eps ps) n L l → Q (.ref tl) H'
theorem sc_lhues : FnScope ["_law_pairs_here", "_law_many", "_law_rows", "_law_c", "_law_found", "_law_row", "_law_hue", "_law_a", "_law_least"] ["_law_pairs_here", "_law_many"] (defScope (top 59)) := ⟨rfl, rfl, rfl, by decide +kernel, rfl, by decide +kernel, by decide +kernel⟩
theorem ok_lhues (F : FnP K "_law_first_hues" 59 f fd) (B : Fr mg) (gMax : mg "max" = none) (gMin : mg "min" = none) : FnOk P w K mg base CX0 1 f fd ["_law_pairs_here", "_law_many"] spLHues := by
  refine F.ok sc_lhues (fun vs H Q E h => ?_) (fun cdv A outer s H vs Q E hr h => ?_)
  · obtain ⟨t, us, ps, n, rfl, _⟩ := h
    rfl
  · obtain ⟨t, us, ps, n, rfl, ht, hP, hl, n1, n7, kk⟩ := h
    refine ⟨_, PSs.nox (pss_cons (ps_set (i := 2) sc_lhues.nd rfl (Or.inl rfl) (pe_lst (pa_cons (pe_lst pa_nil) pa_nil)))
      (pss_cons (ps_for PassesOwn.never rfl (pi_range1 (by rfl) B.range (pa_cons (pv 1) pa_nil)) (pg_name (i := 3) sc_lhues.nd rfl (Or.inr rfl))
        (pss_cons (ps_set (i := 4) sc_lhues.nd rfl (Or.inl rfl) (pe_lst pa_nil))
        (pss_cons (ps_for PassesOwn.never rfl (pi_list (pv 2)) (pg_name (i := 5) sc_lhues.nd rfl (Or.inr rfl))
          (pss_one (ps_for PassesOwn.never rfl (pi_range1 (by rfl) B.range (pa_cons (pe_op op_add (pe_callB (cr_max rfl) (by rfl) gMax (by decide +kernel) (pa_cons (pe_op op_cat (pv 5) (pe_lst (pa_cons (pe_un un_neg pe_int) pa_nil))) pa_nil)) pe_int) pa_nil)) (pg_name (i := 6) sc_lhues.nd rfl (Or.inr rfl))
            (pss_one (ps_if (pt_not (pt_truth (pe_lc (own := [("_law_a", 7)]) (g := gName 7) (tt := tAnd (tTest (tOp rEq (tOp (rIxL K) (tVar 5) (tVar 7)) (tVar 6))) (tTest (tOp (rInD K) (tTup (tCons (tVar 7) (tCons (tVar 3) tNil))) (tVar 0)))) rfl sc_lhues.nd (pi_range1 (by rfl) B.range (pa_cons (pv 3) pa_nil)) (blkOk_by (N := ["_law_pairs_here", "_law_many", "_law_rows", "_law_c", "_law_found", "_law_row", "_law_hue", "_law_a", "_law_least"]) (sc := defScope (top 59)) (by decide +kernel))
                (fun _ _ _ _ _ => pg_name (i := 7) sc_lhues.nd rfl (Or.inl rfl)) (fun _ _ _ _ _ => ?tt1) (fun _ _ _ _ _ => pv 7)) (by intro _; rfl)))
              (pss_one (ps_expr (pe_bm PySem.F.plainAttrs_list PySem.F.slot_list_append PySem.F.type_list_append mt_append (pv 4) (pa_cons (pe_op op_cat (pv 5) (pe_lst (pa_cons (pv 6) pa_nil))) pa_nil)))) pss_nil)))))
        (pss_one (ps_set (i := 2) sc_lhues.nd rfl (Or.inl rfl) (pe_callTy (T := "list") (r := rListOf K) (call_lst (X := _)) (by rfl) B.list (by decide +kernel) (pa_cons (pv 4) pa_nil)))))))
      (pss_cons (ps_set (i := 8) sc_lhues.nd rfl (Or.inr rfl) (pe_callB (cr_min rfl) (by rfl) gMin (by decide +kernel) (pa_cons
          (pe_lc (own := [("_law_row", 5)]) (g := gName 5) (tt := tYes) (te := tCB (rMax K) (tCons (tOp rCat (tVar 5) (tLst (tCons (tC (.int 0)) tNil))) tNil)) rfl sc_lhues.nd (pi_list (pv 2)) (blkOk_by (N := ["_law_pairs_here", "_law_many", "_law_rows", "_law_c", "_law_found", "_law_row", "_law_hue", "_law_a", "_law_least"]) (sc := defScope (top 59)) (by decide +kernel))
            (fun _ _ _ _ _ => pg_name (i := 5) sc_lhues.nd rfl (Or.inl rfl)) (fun _ _ _ _ _ => pts_nil) (fun _ _ _ _ _ => ?te3)) pa_nil)))
      (pss_one (ps_ret (pe_callTy (T := "tuple") (r := rTupOf K) (call_tup (X := _)) (by rfl) B.tuple (by decide +kernel) (pa_cons
        (pe_callB (id := "min") (r := rMinN K false) (cr_minN (X := _) false rfl (room65 hr)) (by rfl) gMin (by decide +kernel) (pa_cons
          (pe_lc (own := [("_law_row", 5)]) (g := gName 5) (tt := tTest (tOp rEq (tCB (rMax K) (tCons (tOp rCat (tVar 5) (tLst (tCons (tC (.int 0)) tNil))) tNil)) (tVar 8))) rfl sc_lhues.nd (pi_list (pv 2)) (blkOk_by (N := ["_law_pairs_here", "_law_many", "_law_rows", "_law_c", "_law_found", "_law_row", "_law_hue", "_law_a", "_law_least"]) (sc := defScope (top 59)) (by decide +kernel))
            (fun _ _ _ _ _ => pg_name (i := 5) sc_lhues.nd rfl (Or.inl rfl)) (fun _ _ _ _ _ => ?tt4) (fun _ _ _ _ _ => pv 5)) pa_nil)) pa_nil))))))), ?_⟩
    case tt1 => exact pts_one (PW.pt (pw_and (pt_cmpR (r := rEq) op_eq (pe_ix (r := rIxL K) ix_list (pv 5) (pv 7) (fun _ _ => rfl)) (pv 6) (nomark _)) (pw_and1 (pt_cmpR (r := rInD K) (op_inD (room65 hr)) (pe_tup (pa_cons (pv 7) (pa_cons (pv 3) pa_nil))) (pv 0) (by rfl)))))
    case te3 => exact pe_callB (cr_max rfl) (by rfl) gMax (by decide +kernel) (pa_cons (pe_op op_cat (pv 5) (pe_lst (pa_cons pe_int pa_nil))) pa_nil)
    case tt4 => exact pts_one (pt_cmpR (r := rEq) op_eq (pe_callB (cr_max rfl) (by rfl) gMax (by decide +kernel) (pa_cons (pe_op op_cat (pv 5) (pe_lst (pa_cons pe_int pa_nil))) pa_nil)) (pv 8) (nomark _))
    refine ⟨(by show 0 ≤ sizeLine; decide), fun M hM => ⟨(by show 1 ≤ sizeLine; decide), fun R hR => ?_⟩⟩
    have sM := same_new (o := .lst []) hM
    have s0 := sM.trans (same_new (o := .lst [V.ref M]) hR)
    have hM0 := same_new (o := .lst [V.ref M]) hR _ _ (upd_same (H := H) (a := M) (o := .lst []))
    refine ⟨_, rfl, _, rfl, by omega, by omega, ?_⟩
    refine for_range (n := n) (fun i σ H' => ∃ (Rw : Addr) (rus : List V) (x3 x4 x5 x6 x7 x8 : Option V), σ = [some (.ref t), some (natV n), some (.ref Rw), x3, x4, x5, x6, x7, x8] ∧ Same H H' ∧ H' Rw = some (.lst rus) ∧ ListsAt H' rus (lrows (Eps ps) i))
      ⟨R, [.ref M], _, _, _, _, _, _, rfl, s0, upd_same, .cons ⟨M, rfl, hM0⟩ .nil⟩ ?_ ?_
    · rintro i σ H1 hi ⟨Rw, rus, x3, x4, x5, x6, x7, x8, rfl, s1, hRw, hL⟩
      have ei : (0 : Int) + (i : Int) = (i : Int) := by omega
      rw [ei]
      have rl : rus.length = (lrows (Eps ps) i).length := hL.len
      have rl2 : (lrows (Eps ps) i).length ≤ 5040 := Nat.le_trans (lrows_len i) (fct_le i (by omega))
      refine ⟨(by show 0 ≤ sizeLine; decide), fun D hD => ?_⟩
      have sD := same_new (o := .lst []) hD
      refine ⟨_, rfl, Rw, rfl, ⟨_, SqL.of (sD _ _ hRw)⟩, for_list (K := K) (a := Rw) (xs := rus) (fun q σ H' => ∃ (x5 x6 x7 x8 : Option V) (dus : List V), σ = [some (.ref t), some (natV n), some (.ref Rw), some (natV i), some (.ref D), x5, x6, x7, x8] ∧ Same H1 H' ∧ H' D = some (.lst dus) ∧ LsN D H' dus (((lrows (Eps ps) i).take q).flatMap (rowExt (Eps ps))) ∧ dus.length ≤ 8 * q)
        ⟨_, _, _, _, [], rfl, sD, upd_same, .nil, Nat.zero_le _⟩ (fun q σ H' _ h => by obtain ⟨_, _, _, _, _, _, z, _⟩ := h; exact SqL.of (z _ _ hRw)) ?_ ?_⟩
      · rintro q v σ H2 hq ⟨y5, y6, y7, y8, dus, rfl, s2, hDu, hU, hdl⟩
        have ql := (List.getElem?_eq_some_iff.mp hq).1
        obtain ⟨row, hrow⟩ : ∃ row, (lrows (Eps ps) i)[q]? = some row := ⟨_, List.getElem?_eq_getElem (by rw [← rl]; exact ql)⟩
        obtain ⟨rt, e, hrt⟩ := hL.get hrow
        rw [hq] at e
        obtain rfl := Option.some.inj e
        obtain ⟨lm, _, lcan⟩ := mem_lrows.mp (List.mem_of_getElem? hrow)
        have ltop := canon_top lcan
        have D1 : ∀ a o, H1 a = some o → a ≠ D := fun a o z y => by rw [y, hD] at z; cases z
        have rtD : rt ≠ D := D1 _ _ hrt
        refine ⟨_, rfl, _, rfl, (by show 1 ≤ sizeLine; decide), fun M hM => ?_⟩
        have sM := same_new (o := .lst [V.int (-1)]) hM
        refine ⟨rt, M, _, _, rfl, rfl, sM _ _ (s2 _ _ hrt), upd_same, by rw [List.length_map, List.length_singleton]; show _ ≤ 2 ^ 24; omega, fun N hN => ?_⟩
        have sN := sM.trans (same_new (o := .lst (row.map natV ++ [V.int (-1)])) hN)
        refine ⟨N, row.map (fun (n : Nat) => (n : Int)) ++ [-1], rfl, SqL.of (by rw [upd_same, row_ints]), by rw [List.length_append, List.length_singleton]; omega, fun m hm hle => ?_⟩
        have em := top_max (.inl rfl) hm hle
        generalize upd (upd H2 M (.lst [V.int (-1)])) N (.lst (row.map natV ++ [V.int (-1)])) = G at sN
        refine ⟨_, _, rfl, rfl, _, rfl, by omega, by omega, ?_⟩
        refine for_range (n := (m + 2).toNat) (fun j σ H' => ∃ (x6 x7 x8 : Option V) (dus : List V), σ = [some (.ref t), some (natV n), some (.ref Rw), some (natV i), some (.ref D), some (.ref rt), x6, x7, x8] ∧ Same H1 H' ∧ H' D = some (.lst dus) ∧ LsN D H' dus (((lrows (Eps ps) i).take q).flatMap (rowExt (Eps ps)) ++ ((List.range j).filter fun h => okH (Eps ps) row h).map fun h => row ++ [h]) ∧ dus.length ≤ 8 * q + j)
          ⟨_, _, _, dus, rfl, s2.trans sN, sN _ _ hDu, by simpa using hU.keep (KeepX.of sN), by omega⟩ ?_ ?_
        · rintro j σ H3 hj ⟨z6, z7, z8, dus, rfl, s3, hDu, hU, hdl⟩
          have ej : (0 : Int) + (j : Int) = (j : Int) := by omega
          rw [ej]
          have hrt3 := s3 _ _ hrt
          have step : (List.range (j + 1)).filter (fun h => okH (Eps ps) row h) = (List.range j).filter (fun h => okH (Eps ps) row h) ++ (if okH (Eps ps) row j = true then [j] else []) := by
            rw [List.range_succ, List.filter_append]
            congr 1
            cases c : okH (Eps ps) row j with
            | true => rw [List.filter_cons_of_pos (by exact c)]; rfl
            | false => rw [List.filter_cons_of_neg (by rw [c]; decide)]; rfl
          refine ⟨_, rfl, _, rfl, by omega, by omega, fun D3 hD3 => lc_range (n := i) (fun a H4 => Same H3 H4 ∧ H4 D3 = some (.lst (((List.range a).filter fun a => row.getD a 0 == j && Eps ps a i).map natV))) ⟨same_new hD3, upd_same⟩ ?_ ?_⟩
          · rintro a H4 ha ⟨s4, hD4⟩
            have ea : (0 : Int) + (a : Int) = (a : Int) := by omega
            rw [ea]
            have st2 : (List.range (a + 1)).filter (fun a => row.getD a 0 == j && Eps ps a i) = (List.range a).filter (fun a => row.getD a 0 == j && Eps ps a i) ++ (if (row.getD a 0 == j && Eps ps a i) = true then [a] else []) := by
              rw [List.range_succ, List.filter_append]
              congr 1
              cases c : (row.getD a 0 == j && Eps ps a i) with
              | true => rw [List.filter_cons_of_pos (by exact c)]; rfl
              | false => rw [List.filter_cons_of_neg (by rw [c]; decide)]; rfl
            have eat : (row.map natV)[a]? = some (natV (row.getD a 0)) := by
              rw [List.getElem?_map, List.getElem?_eq_getElem (by omega), List.getD_eq_getElem?_getD, List.getElem?_eq_getElem (by omega)]
              rfl
            have lenD : (((List.range a).filter fun a => row.getD a 0 == j && Eps ps a i).map natV).length < sizeLine := by
              rw [List.length_map]
              refine Nat.lt_of_le_of_lt (List.length_filter_le _ _) ?_
              rw [List.length_range]
              show _ < 2 ^ 24
              omega
            refine ⟨rfl, _, rfl, _, rfl, rt, _, _, _, rfl, rfl, SqL.of (s4 _ _ hrt3), atI_nat eat, _, rfl, hV_scal (some (row.getD a 0)) (some j), _, rfl, ?_⟩
            have ed : decide (natV (row.getD a 0) = V.int (j : Int)) = (row.getD a 0 == j) := hV_eq (some (row.getD a 0)) (some j)
            rw [ed]
            cases c1 : row.getD a 0 == j with
            | false =>
              rw [c1, Bool.false_and, if_neg (by decide), List.append_nil] at st2
              exact iteF' rfl (iteF' rfl ⟨s4, by rw [st2]; exact hD4⟩)
            | true =>
              rw [c1, Bool.true_and] at st2
              have eu : ((ps.map dPair).any fun z => PyData.eqv z (dPair (a, i))) = Eps ps a i := any_pair ps (a, i)
              refine iteT' rfl ⟨_, rfl, _, rfl, (by show 2 ≤ sizeLine; decide), fun T hT => ?_⟩
              have sT := same_new (o := .tup [natV a, natV i]) hT
              have s1T := ((s1.trans s3).trans s4).trans sT
              refine ⟨_, rfl, dPair (a, i), ps.map dPair, .tup (SqT.of upd_same) (.cons (.int _) (.cons (.int _) .nil)), .lst (SqL.of (s1T _ _ ht)) (dp_pairs (hP.same s1T)), (lay_pair _).shaped (by decide), (lay_pairs _).shaped (by decide), _, rfl, ?_⟩
              rw [eu]
              cases c2 : Eps ps a i with
              | false =>
                rw [c2, if_neg (by decide), List.append_nil] at st2
                exact iteF' rfl ⟨s4.trans sT, by rw [st2]; exact sT _ _ hD4⟩
              | true =>
                rw [c2, if_pos rfl] at st2
                exact iteT' rfl ⟨_, rfl, _, sT _ _ hD4, lenD, same_upd (s4.trans sT) hD3, by rw [st2, List.map_append, upd_same]; rfl⟩
          · rintro H4 ⟨s4, hD4⟩
            have fil : (((List.range i).filter fun a => row.getD a 0 == j && Eps ps a i) = []) ↔ okH (Eps ps) row j = true := by
              rw [← lm]
              exact okH_filter
            generalize hfl : ((List.range i).filter fun a => row.getD a 0 == j && Eps ps a i) = fl at hD4 fil
            refine ⟨_, .inl ⟨_, SqL.of hD4, rfl⟩, ?_⟩
            have s34 := s3.trans s4
            cases fl with
            | cons y r =>
              have hno : okH (Eps ps) row j = false := by
                cases c : okH (Eps ps) row j with
                | false => rfl
                | true =>
                  have := fil.mpr c
                  cases this
              rw [hno, if_neg (by decide), List.append_nil] at step
              exact iteF' rfl ⟨_, _, _, dus, rfl, s34, s4 _ _ hDu, by rw [step]; exact hU.keep (KeepX.of s4), by omega⟩
            | nil =>
              have hyes := fil.mp rfl
              rw [hyes, if_pos rfl] at step
              refine iteT' rfl ⟨_, rfl, .inl ⟨rfl, _, SqL.of (s4 _ _ hDu)⟩, _, rfl, _, rfl, (by show 1 ≤ sizeLine; decide), fun X hX => ?_⟩
              have sX := same_new (o := .lst [V.int (j : Int)]) hX
              refine ⟨rt, X, _, _, rfl, rfl, sX _ _ (s4 _ _ hrt3), upd_same, by rw [List.length_map, List.length_singleton]; show _ ≤ 2 ^ 24; omega, fun Y hY => ?_⟩
              have sY := sX.trans (same_new (o := .lst (row.map natV ++ [V.int (j : Int)])) hY)
              have hYl : upd (upd H4 X (.lst [V.int (j : Int)])) Y (.lst (row.map natV ++ [V.int (j : Int)])) Y = some (.lst ((row ++ [j]).map natV)) := by
                rw [upd_same, List.map_append]
                rfl
              generalize upd (upd H4 X (.lst [V.int (j : Int)])) Y (.lst (row.map natV ++ [V.int (j : Int)])) = G4 at sY hYl
              have sG := s4.trans sY
              have hDG := sG _ _ hDu
              have YD : Y ≠ D := fun z => by
                rw [z] at hY
                have := (s4.trans sX) _ _ hDu
                rw [this] at hY
                cases hY
              refine ⟨D, dus, _, rfl, rfl, hDG, ?_, ?_⟩
              · show _ < 2 ^ 24
                omega
              · refine ⟨_, _, _, dus ++ [.ref Y], rfl, same_upd (s3.trans sG) hD, upd_same, ?_, by rw [List.length_append, List.length_singleton]; omega⟩
                rw [step, List.map_append, ← List.append_assoc]
                exact LsN.app ((hU.keep (KeepX.of sG)).keep KeepX.upd) (.cons ⟨Y, rfl, YD, by rw [upd_ne YD]; exact hYl⟩ .nil)
        · rintro σ H3 ⟨z6, z7, z8, dus, rfl, s3, hDu, hU, hdl⟩
          refine ⟨_, _, _, _, dus, rfl, s3, hDu, ?_, by omega⟩
          rw [List.take_add_one, hrow, List.flatMap_append]
          have e1 : (some row).toList.flatMap (rowExt (Eps ps)) = rowExt (Eps ps) row := by simp
          rw [e1]
          unfold rowExt at hU ⊢
          rw [show topL row + 1 = (m + 2).toNat by omega]
          exact hU
      · rintro σ H2 ⟨y5, y6, y7, y8, dus, rfl, s2, hDu, hU, hdl⟩
        rw [rl, List.take_length, ← lrows_succ] at hU
        refine ⟨_, rfl, D, dus, rfl, .inl (SqL.of hDu), fun G hG => ?_⟩
        have sG := same_new (o := .lst dus) hG
        exact ⟨G, dus, _, _, _, _, _, _, rfl, s1.trans (s2.trans sG), upd_same, (LsN.lists hU).sameAll sG⟩
    · rintro σ H1 ⟨Rw, rus, x3, x4, x5, x6, x7, x8, rfl, s1, hRw, hL⟩
      have rl : rus.length = (lrows (Eps ps) n).length := hL.len
      have rl2 : (lrows (Eps ps) n).length ≤ 5040 := Nat.le_trans (lrows_len n) (fct_le n n7)
      have rowAt : ∀ {q : Nat} {v : V}, rus[q]? = some v → ∃ row rt, (lrows (Eps ps) n)[q]? = some row ∧ v = .ref rt ∧ H1 rt = some (.lst (row.map natV)) ∧ row ≠ [] ∧ row.length = n := fun {q v} hq => by
        obtain ⟨row, hrow⟩ : ∃ row, (lrows (Eps ps) n)[q]? = some row := ⟨_, List.getElem?_eq_getElem (by rw [← rl]; exact (List.getElem?_eq_some_iff.mp hq).1)⟩
        obtain ⟨rt, e, hrt⟩ := hL.get hrow
        rw [hq] at e
        have lm := (mem_lrows.mp (List.mem_of_getElem? hrow)).1
        exact ⟨row, rt, hrow, Option.some.inj e, hrt, (fun z => by rw [z] at lm; simp at lm; omega), lm⟩
      refine ⟨_, rfl, Rw, rfl, ⟨_, SqL.of hRw⟩, fun D hD => lc_list (K := K) (a := Rw) (xs := rus) (fun q H' => Same H1 H' ∧ H' D = some (.lst ((((lrows (Eps ps) n).take q).map fun r => (topL r : Int) - 1).map V.int))) ⟨same_new hD, upd_same⟩ (fun q H' _ z => SqL.of (z.1 _ _ hRw)) ?_ ?_⟩
      · rintro q v H2 hq ⟨s2, hD2⟩
        obtain ⟨row, rt, hrow, rfl, hrt, ne, lm⟩ := rowAt hq
        have tk : (lrows (Eps ps) n).take (q + 1) = (lrows (Eps ps) n).take q ++ [row] := by
          rw [List.take_add_one, hrow]
          rfl
        refine ⟨rfl, _, rfl, (by show 1 ≤ sizeLine; decide), fun M hM => ?_⟩
        have sM := same_new (o := .lst [V.int 0]) hM
        refine ⟨rt, M, _, _, rfl, rfl, sM _ _ (s2 _ _ hrt), upd_same, by rw [List.length_map, List.length_singleton]; show _ ≤ 2 ^ 24; omega, fun N hN => ?_⟩
        have sN := sM.trans (same_new (o := .lst (row.map natV ++ [V.int 0])) hN)
        refine ⟨N, row.map (fun (n : Nat) => (n : Int)) ++ [0], rfl, SqL.of (by rw [upd_same, row_ints]), by rw [List.length_append, List.length_singleton]; omega, fun m hm hle => ?_⟩
        have em := top_max (.inr ⟨rfl, ne⟩) hm hle
        refine ⟨_, sN _ _ hD2, ?_, same_upd (s2.trans sN) hD, by rw [upd_same, tk, List.map_append, List.map_append, em]; rfl⟩
        rw [List.length_map, List.length_map, List.length_take]
        show _ < 2 ^ 24
        omega
      · rintro H2 ⟨s2, hD2⟩
        rw [rl, List.take_length] at hD2
        refine ⟨D, _, rfl, SqL.of hD2, ?_, fun least hmem hle => ?_⟩
        · rw [List.length_map]
          exact List.length_pos_iff.mpr (lrows_ne n)
        refine ⟨_, rfl, Rw, rfl, ⟨_, SqL.of (s2 _ _ hRw)⟩, fun D2 hD2n => lc_list (K := K) (a := Rw) (xs := rus) (fun q H' => Same H2 H' ∧ ∃ fus, H' D2 = some (.lst fus) ∧ ListsAt H1 fus (((lrows (Eps ps) n).take q).filter fun r => decide ((topL r : Int) - 1 = least)) ∧ fus.length ≤ q) ⟨same_new hD2n, [], upd_same, .nil, Nat.le_refl _⟩ (fun q H' _ z => SqL.of (z.1 _ _ (s2 _ _ hRw))) ?_ ?_⟩
        · rintro q v H3 hq ⟨s3, fus, hD3, hF, hfl⟩
          have ql := (List.getElem?_eq_some_iff.mp hq).1
          obtain ⟨row, rt, hrow, rfl, hrt, ne, lm⟩ := rowAt hq
          have step : ((lrows (Eps ps) n).take (q + 1)).filter (fun r => decide ((topL r : Int) - 1 = least)) = ((lrows (Eps ps) n).take q).filter (fun r => decide ((topL r : Int) - 1 = least)) ++ (if decide ((topL row : Int) - 1 = least) = true then [row] else []) := by
            rw [List.take_add_one, hrow, List.filter_append]
            congr 1
            show List.filter _ [row] = _
            cases c : decide ((topL row : Int) - 1 = least) with
            | true => rw [List.filter_cons_of_pos (by exact c)]; rfl
            | false => rw [List.filter_cons_of_neg (by rw [c]; decide)]; rfl
          refine ⟨rfl, _, rfl, (by show 1 ≤ sizeLine; decide), fun M hM => ?_⟩
          have sM := same_new (o := .lst [V.int 0]) hM
          refine ⟨rt, M, _, _, rfl, rfl, sM _ _ (s3 _ _ (s2 _ _ hrt)), upd_same, by rw [List.length_map, List.length_singleton]; show _ ≤ 2 ^ 24; omega, fun N hN => ?_⟩
          have sN := sM.trans (same_new (o := .lst (row.map natV ++ [V.int 0])) hN)
          refine ⟨N, row.map (fun (n : Nat) => (n : Int)) ++ [0], rfl, SqL.of (by rw [upd_same, row_ints]), by rw [List.length_append, List.length_singleton]; omega, fun m hm hle2 => ?_⟩
          have em := top_max (.inr ⟨rfl, ne⟩) hm hle2
          refine ⟨_, rfl, rfl, _, rfl, ?_⟩
          have sG := s3.trans sN
          have ed : decide (V.int m = V.int least) = decide ((topL row : Int) - 1 = least) := by
            rw [em]
            refine decide_eq_decide.mpr ⟨fun h => V.int.inj h, fun h => by rw [h]⟩
          rw [ed]
          cases c : decide ((topL row : Int) - 1 = least) with
          | true =>
            rw [c, if_pos rfl] at step
            refine iteT' rfl ⟨_, rfl, fus, sN _ _ hD3, ?_, same_upd sG hD2n, fus ++ [.ref rt], upd_same, ?_, by rw [List.length_append, List.length_singleton]; omega⟩
            · show _ < 2 ^ 24
              omega
            · rw [step]
              exact hF.app (.cons ⟨rt, rfl, hrt⟩ .nil)
          | false =>
            rw [c, if_neg (by decide), List.append_nil] at step
            exact iteF' rfl ⟨sG, fus, sN _ _ hD3, by rw [step]; exact hF, by omega⟩
        · rintro H3 ⟨s3, fus, hD3, hF, hfl⟩
          rw [rl, List.take_length] at hF
          obtain ⟨r0, hr0, er0⟩ := List.mem_map.mp hmem
          have pos : ∀ {r : List Nat}, r ∈ lrows (Eps ps) n → 1 ≤ topL r := fun {r} h => by
            have lm := (mem_lrows.mp h).1
            rcases topL_get r with z | ⟨x, _, z⟩
            · rw [z] at lm
              simp at lm
              omega
            · omega
          obtain ⟨Ln, eL⟩ : ∃ Ln : Nat, (Ln : Int) = least := ⟨topL r0 - 1, by have := pos hr0; omega⟩
          have hne : (lrows (Eps ps) n).filter (fun r => decide ((topL r : Int) - 1 = least)) ≠ [] := List.ne_nil_of_mem (List.mem_filter.mpr ⟨hr0, decide_eq_true er0⟩)
          refine ⟨D2, fus, _, rfl, SqL.of hD3, dp_lists (hF.sameAll (s2.trans s3)), hne, fun k u r hu hr hleast => ?_⟩
          obtain ⟨rt, e, hrt⟩ := hF.get hr
          rw [hu] at e
          obtain rfl := Option.some.inj e
          obtain ⟨rm, rt2⟩ := List.mem_filter.mp (List.mem_of_getElem? hr)
          have rt3 := of_decide_eq_true rt2
          refine tup_q (.inl (s3 _ _ (s2 _ _ hrt))) fun tl H5 s5 ht5 => kk tl H5 Ln r (((s1.trans s2).trans s3).trans s5) ht5 ⟨rm, by have := pos rm; omega, fun s hs => ?_, fun s hs es => hleast s (List.mem_filter.mpr ⟨hs, decide_eq_true (by omega)⟩)⟩
          have := hle _ (List.mem_map.mpr ⟨s, hs, rfl⟩)
          omega
end
end K16

set_option maxRecDepth 100000
set_option maxHeartbeats 8000000
namespace K16
open PySem PySem.Spec PyProof.Rows L2 Kw
section
variable {P : Program} {w : World} {K : PySem.W.Frag} {mg : Str → Option Value} {base : Heap} {f : Addr} {fd : FuncData}
def spLLot : Sp := fun vs H Q _ => ∃ (t : Addr) (us : List V) (ps : List (Nat × Nat)) (n : Nat), vs = [.ref t, natV n] ∧ H t = some (.lst us) ∧ PairsAt H us ps ∧ n ≤ 7 ∧
  ∀ tl H' l, Same H H' → H' tl = some (.tup (l.map natV)) → LongL (Eps ps) n l → Q (.ref tl) H'
theorem sc_llot : FnScope ["_law_pairs_here", "_law_many", "_law_lots", "_law_c", "_law_lot", "_law_a", "_law_most"] ["_law_pairs_here", "_law_many"] (defScope (top 60)) := ⟨rfl, rfl, rfl, by decide +kernel, rfl, by decide +kernel, by decide +kernel⟩
theorem ok_llot (F : FnP K "_law_first_lot" 60 f fd) (B : Fr mg) (gMax : mg "max" = none) (gMin : mg "min" = none) : FnOk P w K mg base CX0 1 f fd ["_law_pairs_here", "_law_many"] spLLot := by
  refine F.ok sc_llot (fun vs H Q E h => ?_) (fun cdv A outer s H vs Q E hr h => ?_)
  · obtain ⟨t, us, ps, n, rfl, _⟩ := h
    rfl
  · obtain ⟨t, us, ps, n, rfl, ht, hP, n7, kk⟩ := h
    refine ⟨_, PSs.nox (pss_cons (ps_set (i := 2) sc_llot.nd rfl (Or.inl rfl) (pe_lst (pa_cons (pe_tup pa_nil) pa_nil)))
      (pss_cons (ps_for PassesOwn.never rfl (pi_range1 (by rfl) B.range (pa_cons (pv 1) pa_nil)) (pg_name (i := 3) sc_llot.nd rfl (Or.inr rfl))
        (pss_one (ps_set (i := 2) sc_llot.nd rfl (Or.inl rfl) (pe_op op_cat (pv 2)
          (pe_lc (own := [("_law_lot", 4)]) (g := gName 4) (tt := tB (tEqI (tCB (rLenS K) (tCons (tLc (iTup K (tVar 4)) (gName 5) (tTest (tOp (rInD K) (tTup (tCons (tVar 5) (tCons (tVar 3) tNil))) (tVar 0))) (tVar 5) [5]) tNil)) (tCB (rLenS K) (tCons (tVar 4) tNil)))) (te := tOp (rCatQ K) (tVar 4) (tTup (tCons (tVar 3) tNil))) rfl sc_llot.nd (pi_list (pv 2)) (blkOk_by (N := ["_law_pairs_here", "_law_many", "_law_lots", "_law_c", "_law_lot", "_law_a", "_law_most"]) (sc := defScope (top 60)) (by decide +kernel))
            (fun _ _ _ _ _ => pg_name (i := 4) sc_llot.nd rfl (Or.inl rfl)) (fun _ _ _ _ _ => ?tt1) (fun _ _ _ _ _ => ?te1))))))
      (pss_cons (ps_set (i := 6) sc_llot.nd rfl (Or.inr rfl) (pe_callB (cr_max rfl) (by rfl) gMax (by decide +kernel) (pa_cons
          (pe_lc (own := [("_law_lot", 4)]) (g := gName 4) (tt := tYes) (te := tCB (rLenS K) (tCons (tVar 4) tNil)) rfl sc_llot.nd (pi_list (pv 2)) (blkOk_by (N := ["_law_pairs_here", "_law_many", "_law_lots", "_law_c", "_law_lot", "_law_a", "_law_most"]) (sc := defScope (top 60)) (by decide +kernel))
            (fun _ _ _ _ _ => pg_name (i := 4) sc_llot.nd rfl (Or.inl rfl)) (fun _ _ _ _ _ => pts_nil) (fun _ _ _ _ _ => ?te3)) pa_nil)))
      (pss_one (ps_ret
        (pe_callB (id := "min") (r := rMinN K true) (cr_minN (X := _) true rfl (room65 hr)) (by rfl) gMin (by decide +kernel) (pa_cons
          (pe_lc (own := [("_law_lot", 4)]) (g := gName 4) (tt := tB (tEqI (tCB (rLenS K) (tCons (tVar 4) tNil)) (tVar 6))) rfl sc_llot.nd (pi_list (pv 2)) (blkOk_by (N := ["_law_pairs_here", "_law_many", "_law_lots", "_law_c", "_law_lot", "_law_a", "_law_most"]) (sc := defScope (top 60)) (by decide +kernel))
            (fun _ _ _ _ _ => pg_name (i := 4) sc_llot.nd rfl (Or.inl rfl)) (fun _ _ _ _ _ => ?tt4) (fun _ _ _ _ _ => pv 4)) pa_nil))))))), ?_⟩
    case tt1 =>
      refine pts_one (pt_cmp (pc_eqI (pe_callB (id := "len") (r := rLenS K) (call_lenS (X := _)) (by rfl) B.len PySem.boot_len (pa_cons ?_ pa_nil)) (pe_callB (id := "len") (r := rLenS K) (call_lenS (X := _)) (by rfl) B.len PySem.boot_len (pa_cons (pv 4) pa_nil))))
      refine pe_lc (own := [("_law_a", 5)]) (g := gName 5) rfl sc_llot.nd (pi_tup (pv 4)) (blkOk_by (by rfl)) (fun _ _ _ _ _ => pg_name (i := 5) sc_llot.nd rfl (Or.inl rfl)) (fun _ _ _ _ _ => ?_) (fun _ _ _ _ _ => pv 5)
      exact pts_one (pt_cmpR (r := rInD K) (op_inD (room65 hr)) (pe_tup (pa_cons (pv 5) (pa_cons (pv 3) pa_nil))) (pv 0) (by rfl))
    case te1 => exact pe_op (r := rCatQ K) op_catQ (pv 4) (pe_tup (pa_cons (pv 3) pa_nil))
    case te3 => exact pe_callB (id := "len") (r := rLenS K) (call_lenS (X := _)) (by rfl) B.len PySem.boot_len (pa_cons (pv 4) pa_nil)
    case tt4 => exact pts_one (pt_cmp (pc_eqI (pe_callB (id := "len") (r := rLenS K) (call_lenS (X := _)) (by rfl) B.len PySem.boot_len (pa_cons (pv 4) pa_nil)) (pv 6)))
    refine ⟨(by show 0 ≤ sizeLine; decide), fun M hM => ⟨(by show 1 ≤ sizeLine; decide), fun R hR => ?_⟩⟩
    have sM := same_new (o := .tup []) hM
    have s0 := sM.trans (same_new (o := .lst [V.ref M]) hR)
    have hM0 := same_new (o := .lst [V.ref M]) hR _ _ (upd_same (H := H) (a := M) (o := .tup []))
    refine ⟨_, rfl, _, rfl, by omega, by omega, ?_⟩
    refine for_range (n := n) (fun i σ H' => ∃ (Lw : Addr) (lus : List V) (x3 x4 x5 x6 : Option V), σ = [some (.ref t), some (natV n), some (.ref Lw), x3, x4, x5, x6] ∧ Same H H' ∧ H' Lw = some (.lst lus) ∧ TupsAt H' lus (llots (Eps ps) i))
      ⟨R, [.ref M], _, _, _, _, rfl, s0, upd_same, .cons ⟨M, rfl, hM0⟩ .nil⟩ ?_ ?_
    · rintro i σ H1 hi ⟨Lw, lus, x3, x4, x5, x6, rfl, s1, hLw, hL⟩
      have ei : (0 : Int) + (i : Int) = (i : Int) := by omega
      rw [ei]
      have rl : lus.length = (llots (Eps ps) i).length := hL.len
      have rl2 : (llots (Eps ps) i).length ≤ 128 := Nat.le_trans (llots_len i) (Nat.pow_le_pow_right (by decide) (by omega : i ≤ 7))
      refine ⟨_, rfl, _, rfl, Lw, rfl, ⟨_, SqL.of hLw⟩, fun D hD => lc_list (K := K) (a := Lw) (xs := lus) (fun q H' => Same H1 H' ∧ ∃ dus, H' D = some (.lst dus) ∧ TupsAt H' dus ((((llots (Eps ps) i).take q).filter fun lot => lot.all fun a => Eps ps a i).map fun lot => lot ++ [i]) ∧ dus.length ≤ q) ⟨same_new hD, [], upd_same, .nil, Nat.le_refl _⟩ (fun q H' _ z => SqL.of (z.1 _ _ hLw)) ?_ ?_⟩
      · rintro q v H2 hq ⟨s2, dus, hDu, hU, hdl⟩
        have ql := (List.getElem?_eq_some_iff.mp hq).1
        obtain ⟨lot, tl, hlot, rfl, htl⟩ := hL.at hq
        have llen : lot.length ≤ 7 := Nat.le_trans (clq_len (mem_llots.mp (List.mem_of_getElem? hlot))) (by omega)
        have step : ((llots (Eps ps) i).take (q + 1)).filter (fun lot => lot.all fun a => Eps ps a i) = ((llots (Eps ps) i).take q).filter (fun lot => lot.all fun a => Eps ps a i) ++ (if (lot.all fun a => Eps ps a i) = true then [lot] else []) := by
          rw [List.take_add_one, hlot, List.filter_append]
          congr 1
          show List.filter _ [lot] = _
          cases c : lot.all fun a => Eps ps a i with
          | true => rw [List.filter_cons_of_pos (by exact c)]; rfl
          | false => rw [List.filter_cons_of_neg (by rw [c]; decide)]; rfl
        refine ⟨rfl, _, rfl, tl, rfl, ⟨_, SqT.of (s2 _ _ htl)⟩, fun D3 hD3 => lc_tup (K := K) (a := tl) (xs := lot.map natV) (fun r H' => Same H2 H' ∧ H' D3 = some (.lst (((lot.take r).filter fun a => Eps ps a i).map natV))) ⟨same_new hD3, upd_same⟩ (fun r H' _ z => SqT.of (z.1 _ _ (s2 _ _ htl))) ?_ ?_⟩
        · rintro r y H3 hr ⟨s3, hD3'⟩
          rw [List.getElem?_map] at hr
          obtain ⟨a, ha, rfl⟩ := Option.map_eq_some_iff.mp hr
          have st2 : (lot.take (r + 1)).filter (fun a => Eps ps a i) = (lot.take r).filter (fun a => Eps ps a i) ++ (if Eps ps a i = true then [a] else []) := by
            rw [List.take_add_one, ha, List.filter_append]
            congr 1
            show List.filter _ [a] = _
            cases c : Eps ps a i with
            | true => rw [List.filter_cons_of_pos (by exact c)]; rfl
            | false => rw [List.filter_cons_of_neg (by rw [c]; decide)]; rfl
          have eu : ((ps.map dPair).any fun z => PyData.eqv z (dPair (a, i))) = Eps ps a i := any_pair ps (a, i)
          refine ⟨rfl, _, rfl, _, rfl, (by show 2 ≤ sizeLine; decide), fun T hT => ?_⟩
          have sT := same_new (o := .tup [natV a, natV i]) hT
          have s1T := ((s1.trans s2).trans s3).trans sT
          refine ⟨_, rfl, dPair (a, i), ps.map dPair, .tup (SqT.of upd_same) (.cons (.int _) (.cons (.int _) .nil)), .lst (SqL.of (s1T _ _ ht)) (dp_pairs (hP.same s1T)), (lay_pair _).shaped (by decide), (lay_pairs _).shaped (by decide), _, rfl, ?_⟩
          rw [eu]
          cases c2 : Eps ps a i with
          | false =>
            rw [c2, if_neg (by decide), List.append_nil] at st2
            exact iteF' rfl ⟨s3.trans sT, by rw [st2]; exact sT _ _ hD3'⟩
          | true =>
            rw [c2, if_pos rfl] at st2
            refine iteT' rfl ⟨_, rfl, _, sT _ _ hD3', ?_, same_upd (s3.trans sT) hD3, by rw [st2, List.map_append, upd_same]; rfl⟩
            rw [List.length_map]
            refine Nat.lt_of_le_of_lt (List.length_filter_le _ _) ?_
            rw [List.length_take]
            show _ < 2 ^ 24
            omega
        · rintro H3 ⟨s3, hD3'⟩
          rw [List.length_map, List.take_length] at hD3'
          refine ⟨D3, _, rfl, .inl (SqL.of hD3'), _, rfl, tl, _, rfl, .inr (SqT.of (s3 _ _ (s2 _ _ htl))), _, _, rfl, rfl, _, rfl, ?_⟩
          rw [List.length_map, List.length_map]
          have al : (lot.filter fun a => Eps ps a i).length = lot.length ↔ (lot.all fun a => Eps ps a i) = true := by
            rw [List.length_filter_eq_length_iff, List.all_eq_true]
          have s23 := s2.trans s3
          cases c : lot.all fun a => Eps ps a i with
          | false =>
            rw [c, if_neg (by decide), List.append_nil] at step
            refine iteF' (decide_eq_false fun z => ?_) ⟨s23, dus, s3 _ _ hDu, by rw [step]; exact hU.same s3, by omega⟩
            have := al.mp (by omega)
            rw [c] at this
            cases this
          | true =>
            rw [c, if_pos rfl] at step
            refine iteT' (decide_eq_true (by rw [al.mpr c])) ⟨_, rfl, _, rfl, (by show 1 ≤ sizeLine; decide), fun T hT => ?_⟩
            have sT := same_new (o := .tup [natV i]) hT
            refine cat_q (ys := [natV i]) (s23 _ _ htl) upd_same (by rw [List.length_map, List.length_singleton]; show _ ≤ 2 ^ 24; omega) sT fun r2 H5 s5 hr2 => ?_
            have s35 := s3.trans s5
            have hD5 := s35 _ _ hDu
            have rD : r2 ≠ D := fun z => by
              rw [z, hD5] at hr2
              cases hr2
            refine ⟨dus, hD5, ?_, same_upd (s2.trans s35) hD, dus ++ [.ref r2], upd_same, ?_, by rw [List.length_append, List.length_singleton]; omega⟩
            · show _ < 2 ^ 24
              omega
            · rw [step, List.map_append]
              refine TupsAt.app (TupsAt.keep hD5 (Oth.upd (Oth.of (Same.refl _))) (hU.same s35)) (.cons ⟨r2, rfl, upB rD ?_⟩ .nil)
              rw [hr2, List.map_append]
              rfl
      · rintro H2 ⟨s2, dus, hDu, hU, hdl⟩
        rw [rl, List.take_length] at hU
        refine ⟨Lw, D, lus, dus, rfl, rfl, s2 _ _ hLw, hDu, by show _ ≤ 2 ^ 24; omega, fun G hG => ?_⟩
        have sG := same_new (o := .lst (lus ++ dus)) hG
        exact ⟨G, _, _, _, _, _, rfl, s1.trans (s2.trans sG), upd_same, ((hL.same s2).app hU).same sG⟩
    · rintro σ H1 ⟨Lw, lus, x3, x4, x5, x6, rfl, s1, hLw, hL⟩
      have rl : lus.length = (llots (Eps ps) n).length := hL.len
      have rl2 : (llots (Eps ps) n).length ≤ 128 := Nat.le_trans (llots_len n) (Nat.pow_le_pow_right (by decide) n7)
      have e0 : [] ∈ llots (Eps ps) n := mem_llots.mpr ⟨.nil, fun x hx => absurd hx List.not_mem_nil⟩
      refine ⟨_, rfl, Lw, rfl, ⟨_, SqL.of hLw⟩, fun D hD => lc_list (K := K) (a := Lw) (xs := lus) (fun q H' => Same H1 H' ∧ H' D = some (.lst ((((llots (Eps ps) n).take q).map fun l => (l.length : Int)).map V.int))) ⟨same_new hD, upd_same⟩ (fun q H' _ z => SqL.of (z.1 _ _ hLw)) ?_ ?_⟩
      · rintro q v H2 hq ⟨s2, hD2⟩
        have ql := (List.getElem?_eq_some_iff.mp hq).1
        obtain ⟨lot, tl, hlot, rfl, htl⟩ := hL.at hq
        have tk : (llots (Eps ps) n).take (q + 1) = (llots (Eps ps) n).take q ++ [lot] := by
          rw [List.take_add_one, hlot]
          rfl
        refine ⟨rfl, _, rfl, tl, _, rfl, .inr (SqT.of (s2 _ _ htl)), _, hD2, ?_, same_upd s2 hD, by rw [upd_same, tk, List.map_append, List.map_append, List.length_map]; rfl⟩
        rw [List.length_map, List.length_map, List.length_take]
        show _ < 2 ^ 24
        omega
      · rintro H2 ⟨s2, hD2⟩
        rw [rl, List.take_length] at hD2
        refine ⟨D, _, rfl, SqL.of hD2, ?_, fun most hmem hle => ?_⟩
        · rw [List.length_map]
          exact List.length_pos_iff.mpr (List.ne_nil_of_mem e0)
        obtain ⟨l0, hl0, el0⟩ := List.mem_map.mp hmem
        refine ⟨_, rfl, Lw, rfl, ⟨_, SqL.of (s2 _ _ hLw)⟩, fun D2 hD2n => lc_list (K := K) (a := Lw) (xs := lus) (fun q H' => Same H2 H' ∧ ∃ fus, H' D2 = some (.lst fus) ∧ TupsAt H1 fus (((llots (Eps ps) n).take q).filter fun l => decide ((l.length : Int) = most)) ∧ fus.length ≤ q) ⟨same_new hD2n, [], upd_same, .nil, Nat.le_refl _⟩ (fun q H' _ z => SqL.of (z.1 _ _ (s2 _ _ hLw))) ?_ ?_⟩
        · rintro q v H3 hq ⟨s3, fus, hD3, hF, hfl⟩
          have ql := (List.getElem?_eq_some_iff.mp hq).1
          obtain ⟨lot, tl, hlot, rfl, htl⟩ := hL.at hq
          have step : ((llots (Eps ps) n).take (q + 1)).filter (fun l => decide ((l.length : Int) = most)) = ((llots (Eps ps) n).take q).filter (fun l => decide ((l.length : Int) = most)) ++ (if decide ((lot.length : Int) = most) = true then [lot] else []) := by
            rw [List.take_add_one, hlot, List.filter_append]
            congr 1
            show List.filter _ [lot] = _
            cases c : decide ((lot.length : Int) = most) with
            | true => rw [List.filter_cons_of_pos (by exact c)]; rfl
            | false => rw [List.filter_cons_of_neg (by rw [c]; decide)]; rfl
          refine ⟨rfl, _, rfl, tl, _, rfl, .inr (SqT.of (s3 _ _ (s2 _ _ htl))), _, rfl, _, _, rfl, rfl, _, rfl, ?_⟩
          rw [List.length_map]
          cases c : decide ((lot.length : Int) = most) with
          | true =>
            rw [c, if_pos rfl] at step
            refine iteT' c ⟨_, rfl, fus, hD3, ?_, same_upd s3 hD2n, fus ++ [.ref tl], upd_same, ?_, by rw [List.length_append, List.length_singleton]; omega⟩
            · show _ < 2 ^ 24
              omega
            · rw [step]
              exact hF.app (.cons ⟨tl, rfl, htl⟩ .nil)
          | false =>
            rw [c, if_neg (by decide), List.append_nil] at step
            exact iteF' c ⟨s3, fus, hD3, by rw [step]; exact hF, by omega⟩
        · rintro H3 ⟨s3, fus, hD3, hF, hfl⟩
          rw [rl, List.take_length] at hF
          have hne : (llots (Eps ps) n).filter (fun l => decide ((l.length : Int) = most)) ≠ [] := List.ne_nil_of_mem (List.mem_filter.mpr ⟨hl0, decide_eq_true el0⟩)
          refine ⟨D2, fus, _, rfl, SqL.of hD3, dp_tupR (hF.same (s2.trans s3)), hne, fun k u r hu hr hleast => ?_⟩
          obtain ⟨tl, e, htl⟩ := hF.get hr
          rw [hu] at e
          obtain rfl := Option.some.inj e
          obtain ⟨rm, rt2⟩ := List.mem_filter.mp (List.mem_of_getElem? hr)
          have rt3 := of_decide_eq_true rt2
          refine kk tl H3 r ((s1.trans s2).trans s3) (s3 _ _ (s2 _ _ htl)) ⟨mem_llots.mp rm, fun m hm => ?_, fun m hm em => hleast m (List.mem_filter.mpr ⟨mem_llots.mpr hm, decide_eq_true (by omega)⟩)⟩
          have := hle _ (List.mem_map.mpr ⟨m, mem_llots.mpr hm, rfl⟩)
          omega
end
end K16

set_option maxRecDepth 100000
set_option maxHeartbeats 16000000
namespace K16
open PySem PySem.Spec PyProof.Rows L2 Kw
/-! ### all stays but the hand's list -/
def HandLike (o : HO) : Prop := ∃ q i r t, o = .lst [.ref q, .int i, .int r, .int t]
def KI (H H' : Hp) : Prop := ∀ b o, H b = some o → ¬ HandLike o → H' b = some o
theorem KI.of {H H' : Hp} (s : Same H H') : KI H H' := fun b o e _ => s b o e
theorem KI.trans {H H1 H2 : Hp} (a : KI H H1) (b : KI H1 H2) : KI H H2 := fun c o e n => b c o (a c o e n) n
theorem KI.oth {p q : Addr} {H H' : Hp} (O : Oth p H H') (h : HandAt H p q) : KI H H' := fun b o e n => O b o (fun z => by
  obtain ⟨cs, i, r, t, h1, _⟩ := h
  rw [z, h1] at e
  exact n ⟨_, _, _, _, (Option.some.inj e).symm⟩) e
theorem nh_tup {xs : List V} : ¬ HandLike (.tup xs) := fun ⟨_, _, _, _, e⟩ => by cases e
theorem nh_ins {C dx : Addr} {fs : List (Str × V)} : ¬ HandLike (.ins C dx fs) := fun ⟨_, _, _, _, e⟩ => by cases e
theorem nh_hues {hs : List (Option Nat)} : ¬ HandLike (.lst (hs.map hV)) := fun ⟨_, _, _, _, e⟩ => by
  cases hs with
  | nil => cases e
  | cons o r =>
    injection e with e
    injection e with e _
    cases o <;> cases e
theorem nh_nats {l : List Nat} : ¬ HandLike (.lst (l.map natV)) := fun ⟨_, _, _, _, e⟩ => by
  cases l with
  | nil => cases e
  | cons n r =>
    injection e with e
    injection e with e _
    cases e
theorem nh_refs {us : List V} (h : ∀ v ∈ us, ∃ a, v = .ref a) : ¬ HandLike (.lst us) := fun ⟨_, i, _, _, e⟩ => by
  injection e with e
  obtain ⟨a, z⟩ := h (.int i) (by rw [e]; exact List.mem_cons_of_mem _ List.mem_cons_self)
  cases z
theorem RwN.refs {R : Addr} {H : Hp} : ∀ {vs : List V} {ls : List Ent}, RwN R H vs ls → ∀ v ∈ vs, ∃ a, v = .ref a
  | [], [], _, v, hv => by cases hv
  | _ :: _, _ :: _, .cons ⟨t, b, m, e, _⟩ r, v, hv => by
    rcases List.mem_cons.mp hv with z | hv
    · exact ⟨t, z.trans e⟩
    · exact RwN.refs r v hv
theorem ListsAt.refs {H : Hp} : ∀ {vs : List V} {ls : List (List Nat)}, ListsAt H vs ls → ∀ v ∈ vs, ∃ a, v = .ref a
  | [], [], _, v, hv => by cases hv
  | _ :: _, _ :: _, .cons ⟨t, e, _⟩ r, v, hv => by
    rcases List.mem_cons.mp hv with z | hv
    · exact ⟨t, z.trans e⟩
    · exact ListsAt.refs r v hv
theorem RwN.ki {R : Addr} {H H' : Hp} (k : KI H H') : ∀ {vs : List V} {ls : List Ent}, RwN R H vs ls → RwN R H' vs ls
  | [], [], _ => .nil
  | _ :: _, _ :: _, .cons ⟨t, b, m, e, n1, h1, n2, h2, n3, h3⟩ r => .cons ⟨t, b, m, e, n1, k _ _ h1 nh_tup, n2, k _ _ h2 nh_nats, n3, k _ _ h3 nh_nats⟩ (RwN.ki k r)
theorem RwN.new {R R' : Addr} {H : Hp} (hn : H R' = none) : ∀ {vs : List V} {ls : List Ent}, RwN R H vs ls → RwN R' H vs ls
  | [], [], _ => .nil
  | _ :: _, _ :: _, .cons ⟨t, b, m, e, n1, h1, n2, h2, n3, h3⟩ r => .cons ⟨t, b, m, e, ne_of_none h1 hn, h1, ne_of_none h2 hn, h2, ne_of_none h3 hn, h3⟩ (RwN.new hn r)
theorem ListsAt.ki {H H' : Hp} (k : KI H H') : ∀ {vs : List V} {ls : List (List Nat)}, ListsAt H vs ls → ListsAt H' vs ls
  | [], [], _ => .nil
  | _ :: _, _ :: _, .cons ⟨t, e, h⟩ r => .cons ⟨t, e, k _ _ h nh_nats⟩ (ListsAt.ki k r)
theorem KinH.ki {H H' : Hp} {ak ah : Addr} {us : List V} {ks : List (List Nat)} {hs : List (Option Nat)} (h : KinH H ak ah us ks hs) (k : KI H H') : KinH H' ak ah us ks hs := by
  obtain ⟨h1, h2, h3, h4⟩ := h
  exact ⟨k _ _ h1 (nh_refs h2.refs), h2.ki k, k _ _ h3 nh_hues, h4⟩
theorem WorldAt.ki {H H' : Hp} {p C : Addr} {ds : List Ent} (h : WorldAt H p C ds) (k : KI H H') : WorldAt H' p C ds := by
  have kt : TupK H H' := fun b xs e => k b _ e nh_tup
  obtain ⟨dx, ac, ab, ao, am, ae, ah, cs, bs, ms, es, hs, h1, h2, h3, h4, h5, h6, h7, h8, h9, h10, h11, h12⟩ := h
  exact ⟨dx, ac, ab, ao, am, ae, ah, cs, bs, ms, es, hs, k _ _ h1 nh_ins, kt _ _ h2, h3.mono kt, kt _ _ h4, h5.mono kt, kt _ _ h6, kt _ _ h7, h8.mono kt, kt _ _ h9, h10.mono kt, kt _ _ h11, h12.mono kt⟩
theorem LadAt.ki {H H' : Hp} {q Cl C p : Addr} {ds : List Ent} {hs : List (Option Nat)} (h : LadAt H q Cl C p ds hs) (k : KI H H') : LadAt H' q Cl C p ds hs := by
  obtain ⟨dq, t, h1, h2, h3⟩ := h
  exact ⟨dq, t, k _ _ h1 nh_ins, k _ _ h2 nh_tup, h3.ki k⟩
theorem HandAt.ne_of {H : Hp} {p q b : Addr} {o : HO} (h : HandAt H p q) (e : H b = some o) (n : ¬ HandLike o) : b ≠ p := fun z => by
  obtain ⟨cs, i, r, t, h1, _⟩ := h
  rw [z, h1] at e
  exact n ⟨_, _, _, _, (Option.some.inj e).symm⟩
section
variable {P : Program} {w : World} {K : PySem.W.Frag} {C Cb : Addr}
theorem world_q {H : Hp} {wp wdx l : Addr} {us : List V} {ds : List Ent} {Q : VK} {E : XK} (hl : H l = some (.lst us)) (hR : RwN l H us ds) (ok : DsOk ds) (h0 : 1 ≤ ds.length) (h12 : ds.length ≤ 12) (hwp : H wp = none) (hwdx : H wdx = none) (wne : wdx ≠ wp) (q : ∀ H', Same H H' → WorldAt H' wp C ds → Q .non H') :
    spWorld C Cb (.ref wp :: ([.ref l] ++ [])) (upd (upd H wdx (.own wp)) wp (.ins C wdx [])) Q E := by
  have s7 := (same_new (o := .own wp) hwdx).trans (same_new (o := .ins C wdx []) (by rw [upd_ne (Ne.symm wne)]; exact hwp))
  have W7 : upd (upd H wdx (.own wp)) wp (.ins C wdx []) wp = some (.ins C wdx []) := upd_same
  generalize upd (upd H wdx (.own wp)) wp (.ins C wdx []) = G7 at s7 W7 ⊢
  have usl := hR.len
  exact ⟨wp, wdx, .ref l, rfl, W7, .inr ⟨l, us, ds, rfl, .inl (s7 _ _ hl), by omega, by omega, by omega, (hR.keep (KeepX.of s7)).entries ok, .inr ⟨usl.symm, fun H8 O8 hW => q H8 (fun b u e => O8 b u (ne_of_none e hwp) (s7 _ _ e)) hW⟩⟩⟩
end
/-- max(t), t a tuple of whole numbers -/
def rMaxT (K : PySem.W.Frag) : List V → Hp → VK → Prop := fun vs H Q => ∃ (a : Addr) (ns : List Int), vs = [V.ref a] ∧ SqT K H a (ns.map V.int) ∧ 0 < ns.length ∧ ∀ m, m ∈ ns → (∀ y, y ∈ ns → y ≤ m) → Q (.int m) H
theorem foldl_max : ∀ (ns : List Int) (n : Int), n ≤ ns.foldl max n ∧ ∀ y ∈ ns, y ≤ ns.foldl max n
  | [], n => ⟨by show n ≤ n; omega, fun y hy => by cases hy⟩
  | a :: r, n => by
    obtain ⟨h1, h2⟩ := foldl_max r (max n a)
    show n ≤ r.foldl max (max n a) ∧ ∀ y ∈ a :: r, y ≤ r.foldl max (max n a)
    refine ⟨by omega, fun y hy => ?_⟩
    rcases List.mem_cons.mp hy with rfl | hy
    · omega
    · exact h2 y hy
theorem dp_ints {K : PySem.W.Frag} {H : Hp} : ∀ ns : List Int, DpAll K H (ns.map V.int) (ns.map .int)
  | [] => .nil
  | n :: r => .cons (.int _) (dp_ints r)
theorem depth_intsI : ∀ ns : List Int, PyData.depthAll (ns.map .int) = 0
  | [] => by simp [PyData.depthAll]
  | a :: r => by
    rw [List.map_cons, PyData.depthAll, depth_intsI r]
    simp [PyData.depth]
theorem call_maxT {X : Cx} (hc : X.calm = true) (hu : X.A.units + 65 < cLine) : CallR X (.builtin "max") (rMaxT X.K) := by
  intro pins s σ H vs us Q I r h
  obtain ⟨a, ns, rfl, hs, hne, q⟩ := h
  obtain ⟨its, rv, hl, _⟩ := I.tuple hs
  rw [Vals.ref1 r]
  obtain ⟨as, hr⟩ := Dp.readsAll I _ _ _ (dp_ints (K := X.K) (H := H) ns) rv
  match ns, hne with
  | n :: ns, _ =>
    have ha : PySem.W.AlikeAll ((n :: ns).map PyData.int) := by
      refine ⟨fun x hx y hy => ?_, fun x hx => ?_⟩
      · obtain ⟨p, _, rfl⟩ := List.mem_map.mp hx
        obtain ⟨p', _, rfl⟩ := List.mem_map.mp hy
        simp [PySem.W.alike]
      · obtain ⟨p, _, rfl⟩ := List.mem_map.mp hx
        simp
    have hdep := depth_intsI (n :: ns)
    refine PySem.W.max_tuple_data (x := .int n) (xs := ns.map .int) (I.ok.hd hc) hl hr ha (by have : PyData.depthAll (.int n :: ns.map .int) = 0 := hdep; omega) fun i v h' tk bs hv rd hk => ?_
    have hv' : its[i]? = some v := by
      rw [← hv]
      simp
    obtain ⟨u, hu1, hu2⟩ := vals_at rv i v hv'
    have hr' : ReadsAll s.heap its ((n :: ns).map PyData.int) as := hr
    obtain ⟨bs2, rd2, hi, _, _⟩ := PySem.W.readsAll_at hr' i v hv'
    rw [List.length_map] at hi
    obtain ⟨ri, hri⟩ : ∃ ri, (n :: ns)[i]? = some ri := ⟨_, List.getElem?_eq_getElem hi⟩
    have e1 : ((n :: ns).map PyData.int).getD i .none = .int ri := by
      rw [List.getD_eq_getElem?_getD, List.getElem?_map, hri]
      rfl
    rw [e1] at rd2
    rw [PySem.W.maxD_ints] at rd
    have e2 := PySem.W.alike_unique (.int ri) (.int (ns.foldl max n)) _ _ _ (by simp [PySem.W.alike]) (PySem.W.reads_keeps hk rd2) rd
    have e3 : ri = ns.foldl max n := PyData.int.inj e2
    rw [List.getElem?_map, hri] at hu1
    obtain rfl := Option.some.inj hu1
    refine ⟨.int ri, H, I.kept hk, hu2, q ri (List.mem_of_getElem? hri) fun y hy => ?_⟩
    obtain ⟨h1, h2⟩ := foldl_max ns n
    rw [e3]
    rcases List.mem_cons.mp hy with rfl | hy
    · exact h1
    · exact h2 y hy
theorem tIfS_join {c : TT} {tb te : TS} {nx bk ct : L2.St → Hp → Prop} {rt : VK} {σ : L2.St} {H : Hp} (Inv : L2.St → Hp → Prop) (k : ∀ σ H, Inv σ H → nx σ H) (h : ∀ N : L2.St → Hp → Prop, (∀ σ H, Inv σ H → N σ H) → tIfS c tb te ⟨N, rt, bk, ct⟩ σ H) : tIfS c tb te ⟨nx, rt, bk, ct⟩ σ H := h nx k
end K16

set_option maxRecDepth 100000
set_option maxHeartbeats 16000000
namespace K16
open PySem PySem.Spec PyProof.Rows L2 Kw
theorem RwN.set {R : Addr} {H : Hp} {t b m : Addr} {d : Ent} (n1 : t ≠ R) (h1 : H t = some (.tup [.ref b, natV d.2.1, .ref m])) (n2 : b ≠ R) (h2 : H b = some (.lst (d.1.map natV))) (n3 : m ≠ R) (h3 : H m = some (.lst (d.2.2.map natV))) : ∀ {vs : List V} {ls : List Ent} (i : Nat), RwN R H vs ls → RwN R H (vs.set i (.ref t)) (ls.set i d)
  | [], [], _, _ => .nil
  | _ :: _, _ :: _, 0, .cons _ r => .cons ⟨t, b, m, rfl, n1, h1, n2, h2, n3, h3⟩ r
  | _ :: _, _ :: _, i + 1, .cons z r => .cons z (RwN.set n1 h1 n2 h2 n3 h3 i r)
def litB : List (List Nat) := [[], [], [0], [0, 1], [1], [2, 3], [3, 4]]
def sevenD (bs : List Nat) : List Ent := (litB.map fun l => ((l, 0, []) : Ent)).set 6 (bs, 1, [])
instance decEOk {i : Nat} {d : Ent} : Decidable (EOk i d) := by
  unfold EOk
  infer_instance
theorem DsOk.dec {ds : List Ent} (h : ∀ i, i < ds.length → EOk i (ds.getD i ([], 0, []))) : DsOk ds := fun i d e => by
  have hi := (List.getElem?_eq_some_iff.mp e).1
  have := h i hi
  rw [List.getD_eq_getElem?_getD, e] at this
  exact this
theorem seven_ok1 : ∀ x, x < 6 → x ≠ 4 → DsOk (sevenD [x, 4]) := fun x hx h4 => DsOk.dec ((by decide : ∀ x, x < 6 → x ≠ 4 → ∀ i, i < (sevenD [x, 4]).length → EOk i ((sevenD [x, 4]).getD i ([], 0, []))) x hx h4)
theorem seven_ok2 : DsOk (sevenD [4]) := DsOk.dec (by decide)
theorem tIf_join {c : TT} {a b : TE} {σ : L2.St} {H : Hp} {Q : VK} (Inv : V → Hp → Prop) (k : ∀ v H, Inv v H → Q v H) (h : ∀ Q' : VK, (∀ v H, Inv v H → Q' v H) → tIf c a b σ H Q') : tIf c a b σ H Q := h Q k
theorem exact_pairs {H : Hp} {t1 t2 : Addr} {us1 us2 : List V} {ps : List (Nat × Nat)} (h1 : H t1 = some (.tup us1)) (h2 : H t2 = some (.tup us2)) (hP1 : PairsAt H us1 ps) (hP2 : PairsAt H us2 ps) (hl : ps.length ≤ 1000) : Exact H 2 (.ref t1) (.ref t2) := by
  refine .inr ⟨t1, t2, us1, us2, rfl, rfl, h1, h2, by rw [hP1.len, hP2.len], by rw [hP2.len]; exact hl, fun i u v hu hv => ?_⟩
  obtain ⟨p1, a1, e1, rfl, g1⟩ := hP1.at hu
  obtain ⟨p2, a2, e2, rfl, g2⟩ := hP2.at hv
  rw [e1] at e2
  obtain rfl := Option.some.inj e2
  exact Exact.tup 0 g1 g2 (fun v hv => by
    rcases List.mem_cons.mp hv with rfl | hv
    · exact True.intro
    · rw [List.mem_singleton.mp hv]
      exact True.intro) (by show 2 ≤ 1000; decide)
theorem hue_some {fs : List Nat} {a : Nat} (h : a < fs.length) : hueOf (fs.map some) a = some (fs.getD a 0) := by
  unfold hueOf
  rw [List.getD_eq_getElem?_getD, List.getElem?_map, List.getElem?_eq_getElem h, List.getD_eq_getElem?_getD, List.getElem?_eq_getElem h]
  rfl
theorem first_of_prP {ds : List Ent} (ok : DsOk ds) {ps : List (Nat × Nat)} (hps : ∀ a b, (a, b) ∈ ps ↔ Rival (kins (elsOf ds)) a b) {fs : List Nat} (hl : fs.length = ds.length) (hp : PrP (Eps ps) fs) : FirstC (kins (elsOf ds)) (fs.map some) none := by
  refine good_first ok.kins (by rw [List.length_map, kinsL]; exact hl) fun a b h hb hr e q => ?_
  rw [List.length_map] at hb
  have ab := hr.1
  rw [hue_some hb] at e
  rw [hue_some (by omega)] at q
  refine hp a b ab hb (decide_eq_true ((hps a b).mpr hr)) ?_
  rw [Option.some.inj e, Option.some.inj q]
theorem prP_of_first {ds : List Ent} {ps : List (Nat × Nat)} (hps : ∀ a b, (a, b) ∈ ps ↔ Rival (kins (elsOf ds)) a b) {fs : List Nat} (hl : fs.length = ds.length) (hC : FirstC (kins (elsOf ds)) (fs.map some) none) : PrP (Eps ps) fs := by
  intro a b hab hb e q
  obtain ⟨_, _, hn, c, hc, h1, h2⟩ := (hps a b).mp (of_decide_eq_true e)
  have z := firstC_none hC c hc a h1 b h2
  unfold condL at z
  rw [hue_some (by omega), hue_some hb, q, decide_eq_true hab] at z
  have c1 : ((kins (elsOf ds)).getD b []).contains a = false := by
    cases d : ((kins (elsOf ds)).getD b []).contains a with
    | false => rfl
    | true => exact (hn (List.contains_iff_mem.mp d)).elim
  rw [c1] at z
  simp at z
section
variable {P : Program} {w : World} {K : PySem.W.Frag} {mg : Str → Option Value} {base : Heap} {f fHa fT fCl fW fK fE fTo fLI fX fLP fAP fLH fFe fLL fFl fLC C Cb Cc Cl Cnl : Addr} {fd fdHa fdT fdCl fdW fdK fdE fdTo fdLI fdX fdLP fdAP fdLH fdFe fdLL fdFl fdLC : FuncData}
def spLaw (K : PySem.W.Frag) : Sp := fun vs H Q _ => ∃ (a : Addr) (ns : List Int), vs = [.ref a] ∧ SqL K H a (ns.map V.int) ∧ ns.length ≤ 63 ∧ ∀ H', Q (.bl true) H'
theorem sc_law : FnScope ["_law_script", "_law_hand_here", "_law_rows", "_law_bases_here", "_law_world", "_law_pairs_here", "_law_due", "_law_lot", "_law_step", "_law_fewer", "_law_one", "_law_told", "error"] ["_law_script"] (defScope (top 63)) := ⟨rfl, rfl, rfl, by decide +kernel, rfl, by decide +kernel, by decide +kernel⟩
theorem ok_law (F : FnP K "law" 63 f fd) (B : Fr mg) (gMax : mg "max" = none)
    (FHa : FnP K "_law_hand" 44 fHa fdHa) (mHa : mg "_law_hand" = some (.ref fHa)) (GHa : FnOk P w K mg base CX0 1 fHa fdHa ["_law_script"] (spHand K))
    (FT : FnP K "_law_take" 46 fT fdT) (mT : mg "_law_take" = some (.ref fT)) (GT : FnOk P w K mg base CX0 2 fT fdT ["_law_hand_here", "_law_many"] spTake)
    (FCl : FnP K "_law_classes" 50 fCl fdCl) (mCl : mg "_law_classes" = some (.ref fCl)) (GCl : FnOk P w K mg base CX0 5 fCl fdCl ["_law_hand_here", "_law_low", "_law_high", "_law_most", "_law_wanted"] spClasses)
    (FW : FnM K "__init__" "World.__init__" (inClass (top 39) 0) fW fdW) (MW : Mk K C fW) (mW : mg "World" = some (.ref C)) (GW : FnOk P w K mg base (L2.CX P w) 4 fW fdW ["self", "classes"] (spWorld C Cb)) (TC : ClsWorld K mg C)
    (FLI : FnM K "__init__" "Ladders.__init__" (inClass (top 23) 0) fLI fdLI) (TL : ClsF K Cl ["world", "hues"]) (MLI : Mk K Cl fLI) (mLI : mg "Ladders" = some (.ref Cl)) (GLI : FnOk P w K mg base (L2.CX P w) 7 fLI fdLI ["self", "world", "hues"] (spLadders C Cl Cnl))
    (FK : FnP K "_law_kin" 54 fK fdK) (mK : mg "_law_kin" = some (.ref fK)) (GK : FnOk P w K mg base CX0 2 fK fdK ["_law_rows"] spKin)
    (FE : FnP K "_law_exact" 53 fE fdE) (mE : mg "_law_exact" = some (.ref fE)) (GE1 : FnOk P w K mg base CX0 3 fE fdE ["_law_thing", "_law_due"] (spExact 1)) (GE2 : FnOk P w K mg base CX0 4 fE fdE ["_law_thing", "_law_due"] (spExact 2))
    (FTo : FnP K "_law_told_right" 61 fTo fdTo) (mTo : mg "_law_told_right" = some (.ref fTo)) (GTo : FnOk P w K mg base CX0 7 fTo fdTo ["_law_ladders", "_law_kin_here", "_law_hues"] (spTold C Cl))
    (FLP : FnP K "_law_pairs" 55 fLP fdLP) (mLP : mg "_law_pairs" = some (.ref fLP)) (GLP : FnOk P w K mg base CX0 3 fLP fdLP ["_law_rows"] spPairs)
    (FAP : FnP K "apart_pairs" 28 fAP fdAP) (mAP : mg "apart_pairs" = some (.ref fAP)) (GAP : FnOk P w K mg base CX0 5 fAP fdAP ["world"] (spApart C))
    (FLH : FnP K "_law_first_hues" 59 fLH fdLH) (mLH : mg "_law_first_hues" = some (.ref fLH)) (GLH : FnOk P w K mg base CX0 1 fLH fdLH ["_law_pairs_here", "_law_many"] spLHues)
    (FFe : FnP K "fewest_hues" 29 fFe fdFe) (mFe : mg "fewest_hues" = some (.ref fFe)) (GFe : FnOk P w K mg base CX0 16 fFe fdFe ["world"] (spFewest C))
    (FLL : FnP K "_law_first_lot" 60 fLL fdLL) (mLL : mg "_law_first_lot" = some (.ref fLL)) (GLL : FnOk P w K mg base CX0 1 fLL fdLL ["_law_pairs_here", "_law_many"] spLLot)
    (FFl : FnP K "floor_lot" 32 fFl fdFl) (mFl : mg "floor_lot" = some (.ref fFl)) (GFl : FnOk P w K mg base CX0 6 fFl fdFl ["world"] (spFloor C))
    (FLC : FnP K "_law_clash" 57 fLC fdLC) (mLC : mg "_law_clash" = some (.ref fLC)) (GLC : FnOk P w K mg base CX0 2 fLC fdLC ["_law_kin_here", "_law_hues"] spLClash)
    (TX : ErrX K mg "NotLine" ["cls", "first", "second"] Cnl fX) (XX : XfC K Cnl) (exN : PySem.W.exmOne K (.ref Cnl) (.ref Cnl) = some true) :
    FnOk P w K mg base CX0 17 f fd ["_law_script"] (spLaw K) := by
  have bHa : L2.Binds K fdHa ["_law_script"] [] := FHa.bindsN fun _ _ _ _ _ _ us hl => match us, hl with | [_], _ => rfl
  have bT : L2.Binds K fdT ["_law_hand_here", "_law_many"] [] := FT.bindsN fun _ _ _ _ _ _ us hl => match us, hl with | [_, _], _ => rfl
  have bCl : L2.Binds K fdCl ["_law_hand_here", "_law_low", "_law_high", "_law_most", "_law_wanted"] [] := FCl.bindsN fun _ _ _ _ _ _ us hl => match us, hl with | [_, _, _, _, _], _ => rfl
  have bW : L2.Binds K fdW ["self", "classes"] [] := FW.bindsN fun _ _ _ _ _ _ us hl => match us, hl with | [_, _], _ => rfl
  have bLI : L2.Binds K fdLI ["self", "world", "hues"] [] := FLI.bindsN fun _ _ _ _ _ _ us hl => match us, hl with | [_, _, _], _ => rfl
  have bK : L2.Binds K fdK ["_law_rows"] [] := FK.bindsN fun _ _ _ _ _ _ us hl => match us, hl with | [_], _ => rfl
  have bE : L2.Binds K fdE ["_law_thing", "_law_due"] [] := FE.bindsN fun _ _ _ _ _ _ us hl => match us, hl with | [_, _], _ => rfl
  have bTo : L2.Binds K fdTo ["_law_ladders", "_law_kin_here", "_law_hues"] [] := FTo.bindsN fun _ _ _ _ _ _ us hl => match us, hl with | [_, _, _], _ => rfl
  have bLP : L2.Binds K fdLP ["_law_rows"] [] := FLP.bindsN fun _ _ _ _ _ _ us hl => match us, hl with | [_], _ => rfl
  have bAP : L2.Binds K fdAP ["world"] [] := FAP.bindsN fun _ _ _ _ _ _ us hl => match us, hl with | [_], _ => rfl
  have bLH : L2.Binds K fdLH ["_law_pairs_here", "_law_many"] [] := FLH.bindsN fun _ _ _ _ _ _ us hl => match us, hl with | [_, _], _ => rfl
  have bFe : L2.Binds K fdFe ["world"] [] := FFe.bindsN fun _ _ _ _ _ _ us hl => match us, hl with | [_], _ => rfl
  have bLL : L2.Binds K fdLL ["_law_pairs_here", "_law_many"] [] := FLL.bindsN fun _ _ _ _ _ _ us hl => match us, hl with | [_, _], _ => rfl
  have bFl : L2.Binds K fdFl ["world"] [] := FFl.bindsN fun _ _ _ _ _ _ us hl => match us, hl with | [_], _ => rfl
  have bLC : L2.Binds K fdLC ["_law_kin_here", "_law_hues"] [] := FLC.bindsN fun _ _ _ _ _ _ us hl => match us, hl with | [_, _], _ => rfl
  refine F.ok sc_law (fun vs H Q E h => ?_) (fun cdv A outer s H vs Q E hr h => ?_)
  · obtain ⟨a, ns, rfl, _⟩ := h
    rfl
  · obtain ⟨a, ns, rfl, hA, hns, k⟩ := h
    refine ⟨_, PSs.nox (pss_cons (ps_set (i := 1) sc_law.nd rfl (Or.inr rfl) (pe_call GHa (hr.mono (by decide)) (by rfl) mHa FHa.kp bHa .nil pass0 (pa_cons (pv 0) pa_nil)))
      (pss_cons (ps_set (i := 2) sc_law.nd rfl (Or.inl rfl) (pe_call GCl (hr.mono (by decide)) (by rfl) mCl FCl.kp bCl .nil pass0 (pa_cons (pv 1) (pa_cons pe_int (pa_cons (pe_ix (r := rIxT K) ix_tup (pe_tup (pa_cons pe_int (pa_cons pe_int (pa_cons pe_int (pa_cons pe_int pa_nil))))) (pe_call GT (hr.mono (by decide)) (by rfl) mT FT.kp bT .nil pass0 (pa_cons (pv 1) (pa_cons pe_int pa_nil))) (fun _ _ => rfl)) (pa_cons pe_int (pa_cons pe_bl pa_nil)))))))
      (pss_cons (ps_if (pt_cmpR op_eq (pe_call GT (hr.mono (by decide)) (by rfl) mT FT.kp bT .nil pass0 (pa_cons (pv 1) (pa_cons pe_int pa_nil))) pe_int (nomark _))
          (pss_cons (ps_setLc (i := 2) (own := [("_law_bases_here", 3)]) (g := gName 3) (tt := tYes) (te := tTup (tCons (tVar 3) (tCons (tC (.int 0)) (tCons (tLst tNil) tNil)))) rfl sc_law.nd rfl rfl (sw_true rfl rfl rfl (by decide +kernel)) (pi_list (pe_lit2 (pa_lits pe_il0 (pa_lits pe_il0 (pa_lits pe_il1 (pa_lits pe_il2 (pa_lits pe_il1 (pa_lits pe_il2 (pa_lits pe_il2 pa_lits_nil))))))))) (blkOk_by (N := ["_law_script", "_law_hand_here", "_law_rows", "_law_bases_here", "_law_world", "_law_pairs_here", "_law_due", "_law_lot", "_law_step", "_law_fewer", "_law_one", "_law_told", "error"]) (sc := defScope (top 63)) (by decide +kernel))
              (fun _ _ _ _ _ => pg_name (i := 3) sc_law.nd rfl (Or.inl rfl)) (fun _ _ _ _ _ => pts_nil) (fun _ _ _ _ _ => pe_tup (pa_cons (pv 3) (pa_cons pe_int (pa_cons (pe_lst pa_nil) pa_nil)))))
          (pss_cons (ps_asg (pe_tup (pa_cons (pe_ifExp (pt_cmpR op_eq (pe_call GT (hr.mono (by decide)) (by rfl) mT FT.kp bT .nil pass0 (pa_cons (pv 1) (pa_cons pe_int pa_nil))) pe_int (nomark _)) (pe_lst (pa_cons (pe_call GT (hr.mono (by decide)) (by rfl) mT FT.kp bT .nil pass0 (pa_cons (pv 1) (pa_cons pe_int pa_nil))) (pa_cons pe_int pa_nil))) (pe_lst (pa_cons pe_int (pa_cons pe_int pa_nil)))) (pa_cons pe_int (pa_cons (pe_lst pa_nil) pa_nil)))) (pg_sub (pv 2) pe_int set_list (fun _ => rfl)))
          (pss_one (ps_if (pt_cmpR op_eq (pe_ix (r := rIxL K) ix_list (pe_ix (r := rIxT K) ix_tup (pe_ix (r := rIxL K) ix_list (pv 2) pe_int (fun _ _ => rfl)) pe_int (fun _ _ => rfl)) pe_int (fun _ _ => rfl)) pe_int (nomark _))
            (pss_one (ps_asg (pe_tup (pa_cons (pe_lst (pa_cons pe_int pa_nil)) (pa_cons pe_int (pa_cons (pe_lst pa_nil) pa_nil)))) (pg_sub (pv 2) pe_int set_list (fun _ => rfl)))) pss_nil)))) pss_nil)
      (pss_cons (ps_set (i := 4) sc_law.nd rfl (Or.inl rfl) (pe_make MW GW (hr.mono (by decide)) (by rfl) mW bW .nil (passOut (E := fun _ _ _ => False)) (pa_cons (pv 2) pa_nil)))
      (pss_cons (ps_set (i := 5) sc_law.nd rfl (Or.inl rfl) (pe_call GLP (hr.mono (by decide)) (by rfl) mLP FLP.kp bLP .nil pass0 (pa_cons (pv 2) pa_nil)))
      (pss_cons (ps_if (pt_not (pt_val (pe_call GE2 (hr.mono (by decide)) (by rfl) mE FE.kp bE .nil pass0 (pa_cons (pe_call GAP (hr.mono (by decide)) (by rfl) mAP FAP.kp bAP .nil pass0 (pa_cons (pv 4) pa_nil)) (pa_cons (pe_callTy (T := "tuple") (r := rTupOf K) (call_tup (X := _)) (by rfl) B.tuple (by decide +kernel) (pa_cons (pv 5) pa_nil)) pa_nil))))) (pss_one (ps_ret pe_bl)) pss_nil)
      (pss_cons (ps_set (i := 6) sc_law.nd rfl (Or.inr rfl) (pe_call GLH (hr.mono (by decide)) (by rfl) mLH FLH.kp bLH .nil pass0 (pa_cons (pv 5) (pa_cons (pe_callB call_len_seq (by rfl) B.len PySem.boot_len (pa_cons (pv 2) pa_nil)) pa_nil))))
      (pss_cons (ps_if (pt_not (pt_val (pe_call GE1 (hr.mono (by decide)) (by rfl) mE FE.kp bE .nil pass0 (pa_cons (pe_call GFe hr (by rfl) mFe FFe.kp bFe .nil pass0 (pa_cons (pv 4) pa_nil)) (pa_cons (pv 6) pa_nil))))) (pss_one (ps_ret pe_bl)) pss_nil)
      (pss_cons (ps_set (i := 7) sc_law.nd rfl (Or.inl rfl) (pe_call GLL (hr.mono (by decide)) (by rfl) mLL FLL.kp bLL .nil pass0 (pa_cons (pv 5) (pa_cons (pe_callB call_len_seq (by rfl) B.len PySem.boot_len (pa_cons (pv 2) pa_nil)) pa_nil))))
      (pss_cons (ps_if (PW.pt (pw_or (pt_not (pt_val (pe_call GE1 (hr.mono (by decide)) (by rfl) mE FE.kp bE .nil pass0 (pa_cons (pe_call GFl (hr.mono (by decide)) (by rfl) mFl FFl.kp bFl .nil pass0 (pa_cons (pv 4) pa_nil)) (pa_cons (pv 7) pa_nil))))) (pw_or1 (pt_cmp (pc_gt (pe_callB call_len_seq (by rfl) B.len PySem.boot_len (pa_cons (pv 7) pa_nil)) (pe_op op_add (pe_callB (id := "max") (r := rMaxT K) (call_maxT (X := _) rfl (room65 hr)) (by rfl) gMax (by decide +kernel) (pa_cons (pv 6) pa_nil)) pe_int)))))) (pss_one (ps_ret pe_bl)) pss_nil)
      (pss_cons (ps_if (pt_not (pt_val (pe_call GTo (hr.mono (by decide)) (by rfl) mTo FTo.kp bTo .nil pass0 (pa_cons (pe_make MLI GLI (hr.mono (by decide)) (by rfl) mLI bLI .nil (passOut (E := fun _ _ _ => False)) (pa_cons (pv 4) (pa_cons (pv 6) pa_nil))) (pa_cons (pe_call GK (hr.mono (by decide)) (by rfl) mK FK.kp bK .nil pass0 (pa_cons (pv 2) pa_nil)) (pa_cons (pe_callTy (T := "list") (r := rListOf K) (call_lst (X := _)) (by rfl) B.list (by decide +kernel) (pa_cons (pv 6) pa_nil)) pa_nil)))))) (pss_one (ps_ret pe_bl)) pss_nil)
      (pss_cons (ps_if (pt_cmp (pc_gt (pe_callB (id := "max") (r := rMaxT K) (call_maxT (X := _) rfl (room65 hr)) (by rfl) gMax (by decide +kernel) (pa_cons (pv 6) pa_nil)) pe_int))
        (pss_one (ps_for PassesOwn.never rfl (pi_range1 (by rfl) B.range (pa_cons pe_int pa_nil)) (pg_name (i := 8) sc_law.nd rfl (Or.inl rfl))
          (pss_cons (ps_setLc (i := 9) (own := [("_law_one", 10)]) (g := gName 10) (tt := tYes) (te := tCall spTake [] E0 (tCons (tVar 1) (tCons (tCB (rMaxT K) (tCons (tVar 6) tNil)) tNil))) rfl sc_law.nd rfl rfl (sw_true rfl rfl rfl (by decide +kernel)) (pi_list (pv 2)) (blkOk_by (N := ["_law_script", "_law_hand_here", "_law_rows", "_law_bases_here", "_law_world", "_law_pairs_here", "_law_due", "_law_lot", "_law_step", "_law_fewer", "_law_one", "_law_told", "error"]) (sc := defScope (top 63)) (by decide +kernel))
              (fun _ _ _ _ _ => pg_name (i := 10) sc_law.nd rfl (Or.inl rfl)) (fun _ _ _ _ _ => pts_nil) (fun _ _ _ _ _ => ?tk))
          (pss_cons (ps_set (i := 11) sc_law.nd rfl (Or.inl rfl) pe_non)
          (pss_cons (ps_try_as (i := 12) rfl rfl sc_law.nd rfl rfl ⟨rfl, by decide, .inl TX.mg⟩ takes0
              (fun W pn xe tk _ => pss_one (ps_expr (pe_madeS MLI GLI (hr.mono (by decide)) (by rfl) mLI bLI (fun σ => passAt tk σ) (pa_cons (pv 4) (pa_cons (pv 9) pa_nil)))))
              (fun a oe cls d pn hz hf => pss_one (ps_set (i := 11) sc_law.nd rfl (Or.inl rfl) (pe_tup (pa_cons (pe_xf XX (TX.no _ (List.mem_of_getElem? (i := 0) rfl)) hz hf (pv 12)) (pa_cons (pe_xf XX (TX.no _ (List.mem_of_getElem? (i := 1) rfl)) hz hf (pv 12)) (pa_cons (pe_xf XX (TX.no _ (List.mem_of_getElem? (i := 2) rfl)) hz hf (pv 12)) pa_nil)))))))
          (pss_one (ps_if (PW.pt (pw_or (pt_cmpR op_isN (pv 11) pe_non (nomark _)) (pw_or1 (pt_not (pt_val (pe_call GE1 (hr.mono (by decide)) (by rfl) mE FE.kp bE .nil pass0 (pa_cons (pv 11) (pa_cons (pe_call GLC (hr.mono (by decide)) (by rfl) mLC FLC.kp bLC .nil pass0 (pa_cons (pe_call GK (hr.mono (by decide)) (by rfl) mK FK.kp bK .nil pass0 (pa_cons (pv 2) pa_nil)) (pa_cons (pv 9) pa_nil))) pa_nil)))))))) (pss_one (ps_ret pe_bl)) pss_nil))))))) pss_nil)
      (pss_one (ps_ret pe_bl)))))))))))))), ?_⟩
    case tk => exact pe_call GT (hr.mono (by decide)) (by rfl) mT FT.kp bT .nil pass0 (pa_cons (pv 1) (pa_cons (pe_callB (id := "max") (r := rMaxT K) (call_maxT (X := _) rfl (room65 hr)) (by rfl) gMax (by decide +kernel) (pa_cons (pv 6) pa_nil)) pa_nil))
    refine ⟨_, rfl, a, ns, rfl, hA, hns, fun p q H1 s1 hp hq hh => ?_⟩
    refine ⟨_, rfl, (by show 4 ≤ sizeLine; decide), fun t ht => ?_⟩
    obtain ⟨tp, tq⟩ := hh.ne ht
    refine ⟨_, rfl, p, q, 4, rfl, by decide, by decide, hh.upd tp tq, fun r H2 r0 r1 h2 e2 => ?_⟩
    obtain ⟨v, hv, hm⟩ := tab_at (tab := [5, 6, 6, 7]) r0 r1
    have T2 : H2 t = some (.tup (([5, 6, 6, 7] : List Int).map V.int)) := by
      rw [e2 t tp]
      exact upd_same
    have hv5 : 5 ≤ v ∧ v ≤ 7 := (by decide : ∀ v ∈ ([5, 6, 6, 7] : List Int), 5 ≤ v ∧ v ≤ 7) v hm
    obtain ⟨vn, rfl⟩ : ∃ n : Nat, v = (n : Int) := ⟨v.toNat, by omega⟩
    refine ⟨t, _, r, _, rfl, rfl, SqT.of T2, hv, p, q, 1, vn, 6, false, rfl, by decide, by omega, by omega, h2, fun l H3 us ds O3 h3 hl hl3 hR lo1 hi1 ok => ?_⟩
    dsimp only [gName, tSeq]
    refine tIfS_join (fun σ H' => ∃ (l : Addr) (us : List V) (ds : List Ent) (x3 : Option V), σ = [some (.ref a), some (.ref p), some (.ref l), x3, none, none, none, none, none, none, none, none, none] ∧ HandAt H' p q ∧ H' l = some (.lst us) ∧ RwN l H' us ds ∧ DsOk ds ∧ 1 ≤ ds.length ∧ ds.length ≤ 7) ?_ ?_
    · clear hl hl3 hR lo1 hi1 ok h3 O3 hv hm T2
      rintro σ H0 ⟨l, us, ds, x3, rfl, h0, hl0, hR0, ok, n1, n7⟩
      have usl : us.length = ds.length := hR0.len
      -- the world
      refine ⟨_, rfl, fun wp wdx hwp hwdx wne => world_q hl0 hR0 ok n1 (by omega) hwp hwdx wne fun H1 s1 hW1 => ⟨rfl, ?_⟩⟩
      -- the pairs
      refine ⟨_, rfl, l, us, ds, rfl, s1 _ _ hl0, hR0.keep (KeepX.of s1), ok, by omega, fun H2 R ws ps s2 hRn hR2 hP hpl hps hso => ?_⟩
      have s02 := s1.trans s2
      have hW2 := hW1.mono s2
      refine ⟨_, rfl, wp, ds, rfl, hW2, ok, by omega, fun t3 H3 us3 ps3 s3 ht3 hP3 hl3 hso3 hps3 => ⟨_, rfl, tup_q (.inl (s3 _ _ hR2)) fun t4 H4 s4 ht4 => ?_⟩⟩
      obtain rfl : ps3 = ps := sortP_one hso3 hso fun z => by rw [show z = (z.1, z.2) from rfl, hps3, hps]
      have s24 := s3.trans s4
      refine ⟨_, _, rfl, exact_pairs (s4 _ _ ht3) ht4 (hP3.same s4) (hP.same s24) hpl, fun H5 s5 => ⟨_, rfl, iteF' rfl ?_⟩⟩
      have s25 := s24.trans s5
      have s05 := s02.trans s25
      -- the law's hues
      refine ⟨_, rfl, _, rfl, l, us, rfl, .inl (SqL.of (s05 _ _ hl0)), R, ws, ps3, us.length, rfl, s25 _ _ hR2, hP.same s25, hpl, by omega, by omega, fun tl H6 L due s6 htl hF => ?_⟩
      rw [usl] at hF
      have s06 := s05.trans s6
      have s26 := s25.trans s6
      -- the fewest hues
      refine ⟨_, rfl, wp, ds, rfl, hW2.mono s26, ok, by omega, fun v7 H7 ps7 s7 hso7 hps7 hv7 => ⟨_, rfl, ?_⟩⟩
      obtain rfl : ps7 = ps3 := sortP_one hso7 hso fun z => by rw [show z = (z.1, z.2) from rfl, hps7, hps]
      have dl : due.length = ds.length := (mem_lrows.mp hF.mem).1
      obtain ⟨t7, rfl, ht7⟩ : ∃ t7, v7 = .ref t7 ∧ H7 t7 = some (.tup (due.map natV)) := by
        rcases hv7 with ⟨e, _⟩ | ⟨l7, t7, e, e2, e3⟩
        · have := hF.hues
          rw [show firstS ds.length (fun k => frow (Eps ps7) (k + 1) ds.length []) = huesOf ps7 ds.length from rfl, e] at this
          cases this
        · have := hF.hues
          rw [show firstS ds.length (fun k => frow (Eps ps7) (k + 1) ds.length []) = huesOf ps7 ds.length from rfl, e] at this
          obtain rfl := Option.some.inj this
          exact ⟨t7, e2, e3⟩
      refine ⟨_, _, rfl, Exact.tup 0 ht7 (s7 _ _ htl) (fun v hv => by obtain ⟨n, _, rfl⟩ := List.mem_map.mp hv; exact True.intro) (by rw [List.length_map]; omega), fun H8 s8 => ⟨_, rfl, iteF' rfl ?_⟩⟩
      have s68 := s7.trans s8
      have s08 := s06.trans s68
      have s28 := s26.trans s68
      -- the law's lot
      refine ⟨_, rfl, _, rfl, l, us, rfl, .inl (SqL.of (s08 _ _ hl0)), R, ws, ps7, us.length, rfl, s28 _ _ hR2, hP.same s28, by omega, fun tq H9 lot s9 htq hLg => ?_⟩
      rw [usl] at hLg
      have s09 := s08.trans s9
      have s29 := s28.trans s9
      refine ⟨_, rfl, wp, ds, rfl, hW2.mono s29, ok, n1, by omega, fun t10 H10 ps10 lot10 s10 hso10 hps10 ht10 hLg10 => ⟨_, rfl, ?_⟩⟩
      obtain rfl : ps10 = ps7 := sortP_one hso10 hso fun z => by rw [show z = (z.1, z.2) from rfl, hps10, hps]
      obtain rfl : lot10 = lot := hLg10.one hLg
      have llen : lot10.length ≤ ds.length := clq_len hLg.clq
      refine ⟨_, _, rfl, Exact.tup 0 ht10 (s10 _ _ htq) (fun v hv => by obtain ⟨n, _, rfl⟩ := List.mem_map.mp hv; exact True.intro) (by rw [List.length_map]; omega), fun H11 s11 => ⟨_, rfl, iteF' rfl ?_⟩⟩
      have s911 := s10.trans s11
      have s811 := s9.trans s911
      have s211 := s29.trans s911
      have s011 := s09.trans s911
      have htl11 := s811 _ _ (s68 _ _ htl)
      have dne : due ≠ [] := fun z => by rw [z] at dl; simp at dl; omega
      have msq : ∀ {G : Hp}, G tl = some (.tup (due.map natV)) → SqT K G tl ((due.map fun (n : Nat) => (n : Int)).map V.int) := fun {G} hG => SqT.of (by rw [hG, natsI])
      have mpos : 0 < (due.map fun (n : Nat) => (n : Int)).length := by
        rw [List.length_map]
        omega
      have mxe : ∀ m, m ∈ (due.map fun (n : Nat) => (n : Int)) → (∀ y, y ∈ (due.map fun (n : Nat) => (n : Int)) → y ≤ m) → m = (L : Int) := fun m hm hle => by
        obtain ⟨x, hx, rfl⟩ := List.mem_map.mp hm
        have h1 := topL_mem hx
        rw [hF.top] at h1
        rcases topL_get due with z | ⟨y, hy, z⟩
        · exact (dne z).elim
        · rw [hF.top] at z
          have := hle _ (List.mem_map.mpr ⟨y, hy, rfl⟩)
          omega
      refine ⟨_, rfl, tq, _, rfl, .inr (SqT.of (s911 _ _ htq)), _, rfl, tl, _, rfl, msq htl11, mpos, fun m hm hle => ?_⟩
      obtain rfl := mxe m hm hle
      refine ⟨_, _, rfl, rfl, _, _, rfl, rfl, _, rfl, iteF' (decide_eq_false ?_) ?_⟩
      · have := clq_hues hLg.clq (mem_lrows.mp hF.mem).2.1 dl
        rw [hF.top] at this
        rw [List.length_map]
        omega
      -- the ladders by these hues
      have hsV : (due.map some).map hV = due.map natV := by
        rw [List.map_map]
        rfl
      have L7 := hF.le
      have dlt : ∀ x ∈ due, x < L + 1 := topL_le.mp (by rw [hF.top]; exact Nat.le_refl _)
      have h8 : ∀ o ∈ due.map some, ∀ h, o = some h → h < 8 := fun o ho h e => by
        obtain ⟨x, hx, rfl⟩ := List.mem_map.mp ho
        have := dlt x hx
        have := Option.some.inj e
        omega
      have hlm : (due.map some).length = ds.length := by rw [List.length_map]; exact dl
      have lok : LadOk ds (due.map some) := ⟨ok, hlm, by omega, h8⟩
      have hC := first_of_prP ok hps dl (mem_lrows.mp hF.mem).2.1
      have hW11 := hW2.mono s211
      have hl11 := s011 _ _ hl0
      have hR11 := hR0.keep (KeepX.of s011)
      refine ⟨_, rfl, _, rfl, fun ql dql hql hdql lne => ?_⟩
      have sq := (same_new (o := .own ql) hdql).trans (same_new (o := .ins Cl dql []) (by rw [upd_ne (Ne.symm lne)]; exact hql))
      have Q12 : upd (upd H11 dql (.own ql)) ql (.ins Cl dql []) ql = some (.ins Cl dql []) := upd_same
      have qlp : ql ≠ wp := fun z => by
        obtain ⟨_, _, _, _, _, _, _, _, _, _, _, _, g1, _⟩ := hW11
        rw [← z, hql] at g1
        cases g1
      have qlt : ql ≠ tl := fun z => by
        rw [z, htl11] at hql
        cases hql
      generalize upd (upd H11 dql (.own ql)) ql (.ins Cl dql []) = G12 at sq Q12 ⊢
      refine ⟨ql, dql, wp, tl, ds, due.map some, rfl, Q12, qlp, qlt, hW11.mono sq, ok.valid, .inr (by rw [hsV]; exact sq _ _ htl11), hlm, by omega, h8, fun _ t6 H12 O12 hq12 ht12 => ⟨rfl, ?_⟩, fun c x y hC2 => by cases hC.one hC2⟩
      have s12 : Same H11 H12 := fun b u e => O12 b u (ne_of_none e hql) (sq _ _ e)
      have hLad : LadAt H12 ql Cl C wp ds (due.map some) := ⟨dql, t6, hq12, ht12, hW11.mono s12⟩
      refine ⟨_, rfl, l, us, ds.map (·.1), rfl, s12 _ _ hl11, (hR11.keep (KeepX.of s12)).rows, ok.valid, by rw [List.length_map]; omega, fun row hr => by have := ok.short row hr; omega, fun H13 ak kus s13 hak hak13 hne hL => ?_⟩
      have s1113 := s12.trans s13
      refine ⟨_, rfl, tl, _, rfl, .inr (SqT.of (s1113 _ _ htl11)), fun l2 hl2 => ?_⟩
      have sl2 := same_new (o := .lst (due.map natV)) hl2
      refine ⟨ql, wp, ak, l2, kus, ds, due.map some, rfl, (hLad.mono s13).mono sl2, lok, ⟨sl2 _ _ hak13, hL.sameAll sl2, by rw [hsV]; exact upd_same, by rw [kinsL]; exact hlm, by rw [kinsL]; omega, ok.kins⟩, hC, fun H14 s14 => ⟨_, rfl, iteF' rfl ?_⟩⟩
      have s1114 := (s1113.trans sl2).trans s14
      have hh14 := h0.same (s011.trans s1114)
      have hl14 := s1114 _ _ hl11
      have hR14 := hR11.keep (KeepX.of s1114)
      have hW14 := hW11.mono s1114
      have htl14 := s1114 _ _ htl11
      clear hLad hL hak13 hne ht12 hq12 Q12 hv7 ht7
      -- fewer hues
      refine ⟨_, rfl, tl, _, rfl, msq htl14, mpos, fun m hm hle => ?_⟩
      obtain rfl := mxe m hm hle
      refine ⟨_, _, rfl, rfl, _, rfl, ?_⟩
      refine ite2 (fun hL0 => ?_) (fun _ => k _)
      have L1 : 0 < L := by
        have := of_decide_eq_true hL0
        omega
      clear hm hle
      refine ⟨3, rfl, by decide, by decide, ?_⟩
      refine for_range (n := 3) (fun i σ H' => ∃ (x8 x9 x11 : Option V), σ = [some (.ref a), some (.ref p), some (.ref l), x3, some (.ref wp), some (.ref R), some (.ref tl), some (.ref tq), x8, x9, none, x11, none] ∧ HandAt H' p q ∧ KI H14 H')
        ⟨_, _, _, rfl, hh14, fun b o e _ => e⟩ ?_ (fun σ H' _ => k _)
      rintro i σ Ha hi ⟨x8, x9, x11, rfl, hha, ka⟩
      have hla := ka _ _ hl14 (nh_refs hR14.refs)
      have hRa := hR14.ki ka
      have hWa := hW14.ki ka
      have htla := ka _ _ htl14 nh_tup
      refine ⟨_, rfl, l, rfl, ⟨_, SqL.of hla⟩, fun D hD => ?_⟩
      obtain ⟨Dp, Dq⟩ := hha.ne hD
      refine lc_list (K := K) (a := l) (xs := us) (fun j H' => HandAt H' p q ∧ KI Ha H' ∧ ∃ fs : List Nat, H' D = some (.lst (fs.map natV)) ∧ fs.length = j ∧ ∀ x ∈ fs, x < L) ⟨hha.upd Dp Dq, KI.of (same_new hD), [], upd_same, rfl, fun x hx => absurd hx List.not_mem_nil⟩ (fun j H' _ z => SqL.of (z.2.1 _ _ hla (nh_refs hRa.refs))) ?_ ?_
      · rintro j v Hb hj ⟨hhb, kb, fs, hDb, fl, flt⟩
        have jl := (List.getElem?_eq_some_iff.mp hj).1
        refine ⟨rfl, _, rfl, _, rfl, tl, _, rfl, msq (kb _ _ htla nh_tup), mpos, fun m hm hle => ?_⟩
        obtain rfl := mxe m hm hle
        refine ⟨p, q, (L : Int), rfl, by omega, by omega, hhb, fun r Hc r0 r1 hhc ec => ?_⟩
        obtain ⟨rn, rfl⟩ : ∃ n : Nat, r = (n : Int) := ⟨r.toNat, by omega⟩
        have kc := kb.trans (KI.oth (Oth.take ec) hhb)
        refine ⟨fs.map natV, (ec D Dp).trans hDb, ?_, hhc.upd Dp Dq, fun b o e n => upB (ne_of_none e hD) (kc b o e n), fs ++ [rn], by rw [upd_same, List.map_append]; rfl, by rw [List.length_append, fl]; rfl, fun x hx => ?_⟩
        · rw [List.length_map, fl]
          show _ < 2 ^ 24
          omega
        · rcases List.mem_append.mp hx with hx | hx
          · exact flt x hx
          · rw [List.mem_singleton.mp hx]
            omega
      · rintro Hb ⟨hhb, kb, fs, hDb, fl, flt⟩
        rw [usl] at fl
        have hlb := kb _ _ hla (nh_refs hRa.refs)
        have hRb := hRa.ki kb
        have hWb := hWa.ki kb
        have fsV : (fs.map some).map hV = fs.map natV := by
          rw [List.map_map]
          rfl
        have fh8 : ∀ o ∈ fs.map some, ∀ h, o = some h → h < 8 := fun o ho h e => by
          obtain ⟨x, hx, rfl⟩ := List.mem_map.mp ho
          have := flt x hx
          have := Option.some.inj e
          omega
        have flm : (fs.map some).length = ds.length := by rw [List.length_map]; exact fl
        refine ⟨_, rfl, _, rfl, fun q2 dq2 hq2 hdq2 ne2 => ?_⟩
        have sg := (same_new (o := .own q2) hdq2).trans (same_new (o := .ins Cl dq2 []) (by rw [upd_ne (Ne.symm ne2)]; exact hq2))
        have Qg : upd (upd Hb dq2 (.own q2)) q2 (.ins Cl dq2 []) q2 = some (.ins Cl dq2 []) := upd_same
        have q2p : q2 ≠ wp := fun z => by
          obtain ⟨_, _, _, _, _, _, _, _, _, _, _, _, g1, _⟩ := hWb
          rw [← z, hq2] at g1
          cases g1
        have q2D : q2 ≠ D := fun z => by
          rw [z, hDb] at hq2
          cases hq2
        generalize upd (upd Hb dq2 (.own q2)) q2 (.ins Cl dq2 []) = G at sg Qg ⊢
        refine ⟨q2, dq2, wp, D, ds, fs.map some, rfl, Qg, q2p, q2D, hWb.mono sg, ok.valid, .inl (by rw [fsV]; exact sg _ _ hDb), flm, by omega, fh8, fun hC2 t H' O hq' ht => (hF.no fl (prP_of_first hps fl hC2) flt).elim, fun c x y hC2 ed Hd sd he => ?_⟩
        have sbd := sg.trans sd
        refine ⟨true, exN, fun _ ea hea => ?_, fun q => nomatch q⟩
        refine ⟨_, rfl, rfl, rfl, ed, _, _, rfl, he, rfl, _, rfl, rfl, rfl, ed, _, _, rfl, he, rfl, _, rfl, rfl, rfl, ed, _, _, rfl, he, rfl, (by show 3 ≤ sizeLine; decide), fun T hT => ?_⟩
        have sT := sbd.trans (same_new (o := .tup [natV c, natV x, natV y]) hT)
        have hTT : upd Hd T (.tup [natV c, natV x, natV y]) T = some (.tup [natV c, natV x, natV y]) := upd_same
        generalize upd Hd T (.tup [natV c, natV x, natV y]) = Ge at sT hTT ⊢
        refine ⟨_, rfl, rfl, _, rfl, iteF' rfl ⟨_, rfl, _, rfl, l, us, ds.map (·.1), rfl, sT _ _ hlb, (hRb.keep (KeepX.of sT)).rows, ok.valid, by rw [List.length_map]; omega, fun row hr => by have := ok.short row hr; omega, fun Hf ak2 kus2 sf hak2 hak2f hne2 hL2 => ?_⟩⟩
        have sbf := sT.trans sf
        refine ⟨_, rfl, ak2, D, kus2, kins (elsOf ds), fs.map some, rfl, ⟨hak2f, hL2, by rw [fsV]; exact sbf _ _ hDb, by rw [kinsL]; exact flm, by rw [kinsL]; omega, ok.kins⟩, fun v Hg o sg2 hCo hOv => ?_⟩
        obtain rfl := hC2.one hCo
        rcases hOv with ⟨z, _⟩ | ⟨l3, t3, z, rfl, ht3⟩
        · cases z
        · obtain rfl := Option.some.inj z
          refine ⟨_, _, rfl, Exact.tup 0 (sg2 _ _ (sf _ _ hTT)) ht3 (fun v hv => ?_) (by show 3 ≤ 1000; decide), fun Hh sh => ⟨_, rfl, iteF' rfl ⟨_, _, _, rfl, hhb.same ((sbf.trans sg2).trans sh), ka.trans (kb.trans (KI.of ((sbf.trans sg2).trans sh)))⟩⟩⟩
          have hv : v ∈ [c, x, y].map natV := hv
          obtain ⟨n, _, rfl⟩ := List.mem_map.mp hv
          exact True.intro
    · intro N hN
      refine ⟨_, rfl, p, q, 5, rfl, by decide, by decide, h3, fun r5 H4 a0 a1 h4 e4 => ⟨rfl, _, rfl, ?_⟩⟩
      have k34 := KI.oth (Oth.take e4) h3
      refine ite2 (fun _ => ?_) (fun _ => hN _ _ ⟨l, us, ds, _, rfl, h4, k34 _ _ hl3 (nh_refs hR.refs), hR.ki k34, ok, lo1, by omega⟩)
      refine fun lp lus H5 s5 hlp hli => ⟨lp, rfl, ⟨_, SqL.of hlp⟩, fun D hD => lc_list (K := K) (a := lp) (xs := lus) (fun j H' => Same H5 H' ∧ ∃ us, H' D = some (.lst us) ∧ RwN D H' us ((litB.map fun l => ((l, 0, []) : Ent)).take j) ∧ us.length = j) ⟨same_new hD, [], upd_same, .nil, rfl⟩ (fun j H' _ z => SqL.of (z.1 _ _ hlp)) ?_ ?_⟩
      · rintro j y H6 hj ⟨s6, us, hDu, hU, hul⟩
        have elit : ([[], [], [0], [0, 1], [1], [2, 3], [3, 4]] : List (List Int)) = cz litB := rfl
        have lus7 : lus.length = 7 := Paired.length hli
        have jl := (List.getElem?_eq_some_iff.mp hj).1
        obtain ⟨row, hrow⟩ : ∃ row, litB[j]? = some row := ⟨_, List.getElem?_eq_getElem (by show j < 7; omega)⟩
        obtain ⟨b, e, hb⟩ := hli.get (i := j) (l := row.map fun (n : Nat) => (n : Int)) (by rw [elit]; unfold cz; rw [List.getElem?_map, hrow]; rfl)
        rw [hj] at e
        obtain rfl := Option.some.inj e
        rw [← natsI] at hb
        refine ⟨rfl, _, rfl, (by show 0 ≤ sizeLine; decide), fun M hM => ⟨(by show 3 ≤ sizeLine; decide), fun T hT => ?_⟩⟩
        have sM := same_new (o := .lst []) hM
        have sT := same_new (o := .tup [V.ref b, V.int 0, V.ref M]) hT
        have hMM := sT _ _ (upd_same (H := H6) (a := M) (o := .lst []))
        have hDM := sM _ _ hDu
        have hDT := sT _ _ hDM
        have MD : M ≠ D := fun z => by rw [z, hDu] at hM; cases hM
        have TD : T ≠ D := fun z => by rw [z, hDM] at hT; cases hT
        have bD : b ≠ D := fun z => by rw [z, hD] at hb; cases hb
        refine ⟨us, hDT, ?_, same_upd ((s6.trans sM).trans sT) hD, us ++ [.ref T], upd_same, ?_, by rw [List.length_append, hul]; rfl⟩
        · show _ < 2 ^ 24
          omega
        · rw [List.take_add_one, List.getElem?_map, hrow]
          refine RwN.app ((hU.keep (KeepX.of (sM.trans sT))).keep KeepX.upd) (.cons ⟨T, b, M, rfl, TD, ?_, bD, ?_, MD, ?_⟩ .nil)
          · rw [upd_ne TD]
            exact upd_same
          · rw [upd_ne bD]
            exact sT _ _ (sM _ _ (s6 _ _ hb))
          · rw [upd_ne MD]
            exact hMM
      · rintro H6 ⟨s6, us, hDu, hU, hul⟩
        have lus7 : lus.length = 7 := Paired.length hli
        rw [lus7] at hU hul
        have h5 := h4.same s5
        obtain ⟨Dp, Dq⟩ := h5.ne hD
        have h6 := h5.same s6
        dsimp only [tAsg, tTup, tCons, tSeq, gName]
        refine tIf_join (fun v H' => ∃ (Bp : Addr) (x : Nat), v = .ref Bp ∧ x < 6 ∧ HandAt H' p q ∧ KI H6 H' ∧ H' Bp = some (.lst [natV x, natV 4])) ?_ ?_
        · rintro v H7 ⟨Bp, x, rfl, x6, h7, k67, hB⟩
          have hD7 := k67 _ _ hDu (nh_refs hU.refs)
          have hU7 := hU.ki k67
          have BD : Bp ≠ D := fun z => by
            rw [z, hD7] at hB
            have := Option.some.inj hB
            injection this with this
            rw [this] at hul
            cases hul
          refine ⟨(by show 0 ≤ sizeLine; decide), fun M hM => ⟨(by show 3 ≤ sizeLine; decide), fun T hT => ?_⟩⟩
          have sM := same_new (o := .lst []) hM
          have sT := same_new (o := .tup [V.ref Bp, V.int 1, V.ref M]) hT
          have hMM := sT _ _ (upd_same (H := H7) (a := M) (o := .lst []))
          have hDM := sM _ _ hD7
          have hDT := sT _ _ hDM
          have MD : M ≠ D := fun z => by rw [z, hD7] at hM; cases hM
          have TD : T ≠ D := fun z => by rw [z, hDM] at hT; cases hT
          have hBT := sT _ _ (sM _ _ hB)
          have hTT : upd (upd H7 M (.lst [])) T (.tup [V.ref Bp, V.int 1, V.ref M]) T = some (.tup [V.ref Bp, V.int 1, V.ref M]) := upd_same
          have s7 := sM.trans sT
          have h7' := h7.same s7
          generalize upd (upd H7 M (.lst [])) T (.tup [V.ref Bp, V.int 1, V.ref M]) = G at s7 hMM hDT hBT hTT h7'
          refine ⟨_, rfl, D, us, (6 : Int), 6, rfl, rfl, hDT, by rw [hul]; rfl, ?_⟩
          have hUs : RwN D (upd G D (.lst (us.set 6 (.ref T)))) (us.set 6 (.ref T)) (sevenD [x, 4]) :=
            ((hU7.keep (KeepX.of s7)).set (d := ([x, 4], 1, [])) TD hTT BD hBT MD hMM 6).keep KeepX.upd
          have hGD : upd G D (.lst (us.set 6 (.ref T))) D = some (.lst (us.set 6 (.ref T))) := upd_same
          have hGT : upd G D (.lst (us.set 6 (.ref T))) T = some (.tup [V.ref Bp, V.int 1, V.ref M]) := by rw [upd_ne TD]; exact hTT
          have hGB : upd G D (.lst (us.set 6 (.ref T))) Bp = some (.lst [natV x, natV 4]) := by rw [upd_ne BD]; exact hBT
          have hGh := h7'.upd (o := .lst (us.set 6 (.ref T))) Dp Dq
          generalize upd G D (.lst (us.set 6 (.ref T))) = G2 at hUs hGD hGT hGB hGh
          have at6 : (us.set 6 (.ref T))[6]? = some (.ref T) := by
            rw [List.getElem?_set_self (by omega)]
          have len7 : (us.set 6 (.ref T)).length = 7 := by rw [List.length_set, hul]
          refine ⟨_, rfl, D, _, ((6 : Nat) : Int), _, rfl, rfl, SqL.of hGD, atI_nat at6, T, _, ((0 : Nat) : Int), _, rfl, rfl, SqT.of hGT, atI_nat rfl, Bp, _, ((0 : Nat) : Int), _, rfl, rfl, SqL.of hGB, atI_nat rfl, rfl, _, rfl, ?_⟩
          refine ite2 (fun _ => ?_) (fun hx4 => hN _ _ ⟨D, _, sevenD [x, 4], _, rfl, hGh, hGD, hUs, seven_ok1 x x6 (fun z => hx4 (by rw [z]; rfl)), by show 1 ≤ 7; decide, by show 7 ≤ 7; decide⟩)
          refine ⟨(by show 1 ≤ sizeLine; decide), fun B2 hB2 => ⟨(by show 0 ≤ sizeLine; decide), fun M2 hM2 => ⟨(by show 3 ≤ sizeLine; decide), fun T2 hT2 => ?_⟩⟩⟩
          have sB2 := same_new (o := .lst [V.int 4]) hB2
          have sM2 := same_new (o := .lst []) hM2
          have sT2 := same_new (o := .tup [V.ref B2, V.int 1, V.ref M2]) hT2
          have B2D : B2 ≠ D := fun z => by rw [z, hGD] at hB2; cases hB2
          have M2D : M2 ≠ D := fun z => by rw [z, sB2 _ _ hGD] at hM2; cases hM2
          have T2D : T2 ≠ D := fun z => by rw [z, sM2 _ _ (sB2 _ _ hGD)] at hT2; cases hT2
          have hB2' := sT2 _ _ (sM2 _ _ (upd_same (H := G2) (a := B2) (o := .lst [V.int 4])))
          have hM2' := sT2 _ _ (upd_same (H := upd G2 B2 (.lst [V.int 4])) (a := M2) (o := .lst []))
          have sAll := (sB2.trans sM2).trans sT2
          have hT2' : upd (upd (upd G2 B2 (.lst [V.int 4])) M2 (.lst [])) T2 (.tup [V.ref B2, V.int 1, V.ref M2]) T2 = some (.tup [V.ref B2, V.int 1, V.ref M2]) := upd_same
          generalize upd (upd (upd G2 B2 (.lst [V.int 4])) M2 (.lst [])) T2 (.tup [V.ref B2, V.int 1, V.ref M2]) = G3 at hB2' hM2' sAll hT2'
          have e7 : (sevenD [x, 4]).set 6 ([4], 1, []) = sevenD [4] := rfl
          refine ⟨_, rfl, D, _, (6 : Int), 6, rfl, rfl, sAll _ _ hGD, by rw [len7]; rfl, hN _ _ ⟨D, _, sevenD [4], _, rfl, (hGh.same sAll).upd Dp Dq, upd_same, ?_, seven_ok2, by show 1 ≤ 7; decide, by show 7 ≤ 7; decide⟩⟩
          rw [← e7]
          exact ((hUs.keep (KeepX.of sAll)).set (d := ([4], 1, [])) T2D hT2' B2D hB2' M2D hM2' 6).keep KeepX.upd
        · intro Q' hQ'
          refine ⟨_, rfl, p, q, 3, rfl, by decide, by decide, h6, fun r3 H7 b0 b1 h7 e7 => ⟨rfl, _, rfl, ?_⟩⟩
          have k7 := KI.oth (Oth.take e7) h6
          refine ite2 (fun _ => ?_) (fun _ => ⟨(by show 2 ≤ sizeLine; decide), fun B hB => hQ' _ _ ⟨B, 3, rfl, by decide, h7.upd (h7.ne hB).1 (h7.ne hB).2, k7.trans (KI.of (same_new hB)), upd_same⟩⟩)
          refine ⟨_, rfl, p, q, 6, rfl, by decide, by decide, h7, fun r6 H8 c0 c1 h8 e8 => ⟨(by show 2 ≤ sizeLine; decide), fun B hB => ?_⟩⟩
          obtain ⟨xn, rfl⟩ : ∃ n : Nat, r6 = (n : Int) := ⟨r6.toNat, by omega⟩
          exact hQ' _ _ ⟨B, xn, rfl, by omega, h8.upd (h8.ne hB).1 (h8.ne hB).2, (k7.trans (KI.oth (Oth.take e8) h7)).trans (KI.of (same_new hB)), upd_same⟩
end
end K16

set_option maxRecDepth 100000
set_option maxHeartbeats 4000000
namespace Kx
open PySem PySem.Spec PyProof.Rows L2

/-- a held exception's class, as far as reading its fields and asking its class goes -/
structure HeldC (K : PySem.W.Frag) (C : Addr) : Prop where
  fld : XfC K C
  icl : (PySem.W.clsIn K C).isSome = true
  cla : PySem.W.findIn K (.ref C) "__class__" = some (some (.builtin "object.__class__"))
  obj : PySem.W.mroIn K C (.type "object") = some true

/-- an exception stands at a, with the fields fs (none: it has no dict as yet) -/
def Held (H : Hp) (a C : Addr) (fs : List (Str × V)) : Prop :=
  (H a = some (exo a C none) ∧ fs = []) ∨ ∃ dx, H a = some (exo a C (some dx)) ∧ H dx = some (exd dx fs)

section
variable {X : Cx} {pins : List (Addr × Obj)} {σ : L2.St} {H : Hp} {s : Shared} {a C dx : Addr} {f : Str} {fs : List (Str × V)}

theorem held_at (I : Inv X pins σ H s) (h : Held H a C fs) : ∃ ox od, PySem.W.InstAt s.heap a ox C od := by
  rcases h with ⟨ha, _⟩ | ⟨dx, ha, hd⟩
  · obtain ⟨t, ho⟩ := exo_at I.hok ha
    exact ⟨_, none, ⟨ho, rfl, rfl, trivial⟩⟩
  · obtain ⟨t, ho⟩ := exo_at I.hok ha
    obtain ⟨mA, hn, _⟩ := exd_at I.hok hd
    obtain ⟨od, e, _⟩ := lookIn_ns hn
    exact ⟨_, some od, ⟨ho, rfl, rfl, e⟩⟩

/-- e.f of a held exception -/
def tHf (K : PySem.W.Frag) (f : Str) (te : TE) : TE := fun σ H Q => te σ H fun x H1 => ∃ (a C dx : Addr) (fs : List (Str × V)) (v : V),
  x = .ref a ∧ XfC K C ∧ PySem.W.findIn K (.ref C) f = some none ∧ H1 a = some (exo a C (some dx)) ∧ H1 dx = some (exd dx fs) ∧ fs.lookup f = some v ∧ Q v H1
theorem pe_hf {e : Expr} {te : TE} {pos : Pos} (he : PE X e te) (hb : attributeBase e f X.env (eval e X.env) = eval e X.env := by rfl) : PE X (.Attribute e f pos) (tHf X.K f te) := by
  refine ⟨fun pins s σ H Q I h => attr_of hb (thn (he.run pins s σ H _ I h) fun u s1 hh => ?_)⟩
  obtain ⟨x, H1, I1, rx, a, C, dx, fs, v, ex, T, hno, ha, hd, hl, q⟩ := hh
  subst ex
  obtain rfl : u = Value.ref a := rx
  obtain ⟨t, ho⟩ := exo_at I1.hok ha
  obtain ⟨mA, hn, rel⟩ := exd_at I1.hok hd
  obtain ⟨od, eo, look⟩ := lookIn_ns hn
  have rv : RelO (some v) (mA f) := hl ▸ rel f
  obtain ⟨z, ez, rz⟩ := RelO.some_of rv
  have J : PySem.W.InstAt s1.heap a _ C (some od) := ⟨ho, rfl, rfl, eo⟩
  have fo := PySem.W.findObj_own (od := od) (v := z) T.hdC hno rfl (by rw [look, ez])
  exact HandSPX.exc_get I1.kIn J T.ga T.gg T.exC fo (handed_of rz) ⟨v, H1, I1.tok _, rz, q⟩

/-- isinstance(e, D), e a held exception -/
def rHis (K : PySem.W.Frag) : List V → Hp → VK → Prop := fun xs H Q => ∃ (a C : Addr) (fs : List (Str × V)) (c : V) (t : Value) (b : Bool),
  xs = [.ref a, c] ∧ Held H a C fs ∧ HeldC K C ∧ PySem.W.specialIn K (.builtin "object.__class__") "__get__" = some (some (.builtin "getset_descriptor.__get__")) ∧ PySem.W.takesIn K (.builtin "object.__class__") = some true ∧ (∀ u, RelV c u → u = t) ∧ PySem.W.kitOne K (.ref C) t = some b ∧ Q (.bl b) H
theorem call_his : CallR X (.builtin "isinstance") (rHis X.K) := by
  intro pins s σ H xs us Q I r h
  obtain ⟨a, C, fs, c, t, b, ex, hh, T, sp, tk, ct, e, q⟩ := h
  subst ex
  obtain ⟨u1, u2, eu, r1, r2⟩ := vals2 r
  subst eu
  obtain rfl : u1 = Value.ref a := r1
  rw [ct u2 r2]
  obtain ⟨ox, od, J⟩ := held_at I hh
  exact PySem.W.kia_one (PySem.W.kitx_exc T.icl T.fld.ga T.fld.gg T.fld.exC T.cla sp tk T.obj) I.kIn J e (fun z => nomatch z) fun k => ⟨.bl b, H, I.tok k, rfl, q⟩
end

section
variable {X : Cx} {C fI : Addr} {k : Nat} {fd : FuncData} {ps : List Str} {sp : Sp} {x : Str} {e : Expr} {es : List Expr} {ta : TA} {p pos : Pos} {CX : CXT}
/-- the class at C called with values: a new exception, kept, its own __init__ run -/
theorem hold_call {pins : List (Addr × Obj)} {σ : L2.St} {H : Hp} {s : Shared} {Q : VK} {us : List Value} {vs : List V} (T : OexC X.K C) (iC : PySem.W.findIn X.K (.ref C) "__init__" = some (some (.ref fI))) (tI : PySem.W.typeIn X.K (.ref fI) = some (.type "function"))
    (F1 : FnOk X.prog X.w X.K X.mg X.base CX k fI fd ps sp) (hr : Room (k + 1) X.A) (hb : Binds X.K fd ps []) (hx : Passes CX X E0) (I : Inv X pins σ H s) (r : Vals vs us) (hz : vs.length ≤ 1000)
    (q : ∀ a, H a = none → sp (.ref a :: vs) (upd H a (exo a C none)) (fun v H2 => v = .non ∧ Q (.ref a) H2) E0) :
    wpAny (model X.prog X.w) X.A (call (.ref C) us) (EP X pins σ Q) X.xe s := by
  obtain ⟨nm, qn, N, bs, bm, sn, sub, ab, col, dd, k0, k1, k2, k3, k5, hC, hbm⟩ := T.cls
  obtain ⟨hp, g, dr, tk, os⟩ := s
  generalize ea : hp.objs.size + 1 = a
  have hsz : hp.objs.size ≤ a := by omega
  have hn : H a = none := I.hok.fresh hsz
  have hq := q a hn
  have kk : ∀ b o, hp.get? b = some o → ((hp.push (PySem.W.kdv_tup us)).push (PySem.HandSPX.excO C hp.objs.size)).get? b = some o :=
    fun b o z => Heap.get?_push_of_some _ (Heap.get?_push_of_some _ z)
  have hget : ((hp.push (PySem.W.kdv_tup us)).push (PySem.HandSPX.excO C hp.objs.size)).get? a = some (PySem.HandSPX.excO C hp.objs.size) := by
    rw [← ea]
    heap_get
  have I2 : Inv X pins σ (upd H a (exo a C none)) ⟨(hp.push (PySem.W.kdv_tup us)).push (PySem.HandSPX.excO C hp.objs.size), g, dr, tk, os⟩ :=
    I.laid (t' := tk) kk hsz (exo_ok hget)
  have r2 : Vals (V.ref a :: vs) (Value.ref a :: us) := .cons rfl r
  have hl : (Value.ref a :: us).length = ps.length := r2.length.symm.trans (F1.len _ _ _ _ hq)
  have hus : us.length ≤ sizeLine := by
    rw [← Paired.length r, sizeLine_eq]
    omega
  have bd : BindsTo ⟨(hp.push (PySem.W.kdv_tup us)).push (PySem.HandSPX.excO C hp.objs.size), g, dr, tk, os⟩ fd ⟨Value.ref a :: us, []⟩ (ps.zip (Value.ref a :: us)) := by
    have z := hb ⟨(hp.push (PySem.W.kdv_tup us)).push (PySem.HandSPX.excO C hp.objs.size), g, dr, tk, os⟩ (Value.ref a :: us) I2.kIn (by rw [List.append_nil]; exact hl)
    rw [List.append_nil] at z
    exact z
  have go := F1.run _ X.stack _ _ ⟨Value.ref a :: us, []⟩ (Value.ref a :: us) _ _ E0 (hr.make C us []) (I2.env0.make C us []) bd r2 hq
  refine wpAny_call (PySem.HandSPX.call_own F.excBase_ValueError (fun Y => PySem.HandSPX.refsVE_contains Y bm hbm) (I.kIn _ _ hC) (PySem.W.looks_findIn I.kIn iC) (fun self => PySem.W.bind_fn I.kIn self tI) hus ?_)
  rw [ea]
  refine codeAny_mono go fun r s' hq' => ?_
  cases r with
  | error er => exact hx pins σ _ _ er s' I2 hq'
  | ok fl =>
    cases fl with
    | ret u =>
      obtain ⟨v, H2, J, rv, ev, q2⟩ := I2.after (show CE _ _ _ _ _ _ u s' from hq')
      subst ev
      exact ⟨rv, .ref a, H2, J, rfl, q2⟩
    | next => exact False.elim hq'
    | brk => exact False.elim hq'
    | cont => exact False.elim hq'

/-- C(e, ..) kept as a value -/
def tHold (C : Addr) (sp : Sp) (ta : TA) : TE := fun σ H Q => ta σ H fun vs H1 => vs.length ≤ 1000 ∧ ∀ a, H1 a = none → sp (.ref a :: vs) (upd H1 a (exo a C none)) (fun v H2 => v = .non ∧ Q (.ref a) H2) E0
theorem pe_hold (T : OexC X.K C) (iC : PySem.W.findIn X.K (.ref C) "__init__" = some (some (.ref fI))) (tI : PySem.W.typeIn X.K (.ref fI) = some (.type "function"))
    (F1 : FnOk X.prog X.w X.K X.mg X.base CX k fI fd ps sp) (hr : Room (k + 1) X.A) (hb : Binds X.K fd ps []) (hx : Passes CX X E0) (hg : Gl X x) (hm : X.mg x = some (.ref C)) (ha : PA X (e :: es) ta)
    (hdb : (x == ("__debug__" : Str)) = false := by decide) (he : starEach (e :: es) X.env = (false, eval e X.env) :: starEach es X.env := by rfl) (hpl : (backTo pos (starEach es X.env)).any (·.1) = false := by rfl) :
    PE X (.Call (.Name x p) (e :: es) [] pos) (tHold C sp ta) := by
  refine ⟨fun pins s σ H Q I h => wpAny_Call_Name_kw (ld_glob I hg hm ?_ hdb)⟩
  refine PySem.W.callWith_K (h₀ := X.base) I.ok.mod.kin T.kC (thn (ha.run pos pins s σ H _ I h) fun us s1 ⟨vs, H1, I1, r1, hz, q1⟩ => ?_) he hpl
  exact ⟨I1.kIn, hold_call T iC tI F1 hr hb hx I1 r1 hz q1⟩
/-- C() -/
theorem pe_hold0 (T : OexC X.K C) (iC : PySem.W.findIn X.K (.ref C) "__init__" = some (some (.ref fI))) (tI : PySem.W.typeIn X.K (.ref fI) = some (.type "function"))
    (F1 : FnOk X.prog X.w X.K X.mg X.base CX k fI fd ps sp) (hr : Room (k + 1) X.A) (hb : Binds X.K fd ps []) (hx : Passes CX X E0) (hg : Gl X x) (hm : X.mg x = some (.ref C))
    (hdb : (x == ("__debug__" : Str)) = false := by decide) :
    PE X (.Call (.Name x p) [] [] pos) (tHold C sp tNil) := by
  refine ⟨fun pins s σ H Q I h => wpAny_Call_Name_kw (ld_glob I hg hm ?_ hdb)⟩
  obtain ⟨hz, q1⟩ := h
  exact PySem.W.callWith_K0 I.kIn T.kC (hold_call T iC tI F1 hr hb hx I (us := []) .nil hz q1)
end
end Kx

set_option maxRecDepth 100000
set_option maxHeartbeats 4000000
namespace Kx
open PySem PySem.Spec PyProof.Rows L2 He

/-- the class at C, by its object alone: over ValueError, its own chain, a dict for its instances -/
def shapeB (K : PySem.W.Frag) (C Kin : Addr) : Bool :=
  match K.lookup C with
  | some ⟨c, _, .cls cd, sl⟩ =>
    (match cd.mro, sl.toList with
      | a :: bm, [_, _, _, _, some (.builtin n), _] => (c == .type "type") && ((a == .ref C) && ((n == "ValueError.__new__") && (cd.hasDict && ((!cd.hasDel) && (bm == .ref Kin :: veBase)))))
      | _, _ => false)
  | _ => false

theorem shapeB_ok {K : PySem.W.Frag} {C Kin : Addr} (h : shapeB K C Kin = true) :
    ∃ nm q N bs sn sub ab col dd k0 k1 k2 k3 k5, K.lookup C = some (excClassObj nm q C N bs (.ref Kin :: veBase) true sn sub ab col dd k0 k1 k2 k3 k5 "ValueError.__new__") := by
  unfold shapeB at h
  split at h
  · rename_i c dd cd sl ho
    split at h
    · rename_i a bm k0 k1 k2 k3 n k5 hm hs
      simp only [Bool.and_eq_true, beq_iff_eq, Bool.not_eq_true'] at h
      obtain ⟨rfl, rfl, rfl, hd, hdel, rfl⟩ := h
      obtain ⟨nm, bs, mro, ns, qn, hdct, sn, sub, ab, col, del⟩ := cd
      dsimp only at hm hdel hd
      subst hm hdel hd
      obtain ⟨l⟩ := sl
      have e : l = [k0, k1, k2, k3, some (.builtin "ValueError.__new__"), k5] := hs
      subst e
      exact ⟨_, _, _, _, _, _, _, _, _, _, _, _, _, _, ho⟩
    · cases h
  · cases h

/-- one error class of the text: its name, the parameters of its own __init__ -/
structure ErrD where
  name : Str
  ps : List Str

/-- all that is asked of such a class -/
def ErrD.ok (K : PySem.W.Frag) (Kin : Addr) (d : ErrD) : Bool :=
  shapeB K (ga K d.name) Kin && (xfB K (ga K d.name)
    && (eqO (PySem.W.findIn K (.ref (ga K d.name)) "__setattr__") (some (some (.builtin "object.__setattr__")))
    && (decide (PySem.W.typeIn K (.ref (ga K d.name)) = some (.type "type"))
    && (PySem.W.keepIn K (.ref (ga K d.name))
    && (eqO (PySem.W.findIn K (.ref (ga K d.name)) "__class__") (some (some (.builtin "object.__class__")))
    && (eqO (PySem.W.findIn K (.ref (ga K d.name)) "__init__") (some (some (.ref (ma K (ga K d.name) "__init__"))))
    && (decide (PySem.W.typeIn K (.ref (ma K (ga K d.name) "__init__")) = some (.type "function"))
    && d.ps.all fun p => eqO (PySem.W.findIn K (.ref (ga K d.name)) p) (some none))))))))

/-- the same, said -/
structure ErrOk (K : PySem.W.Frag) (Kin : Addr) (d : ErrD) : Prop where
  oex : OexC K (ga K d.name)
  held : HeldC K (ga K d.name)
  ini : PySem.W.findIn K (.ref (ga K d.name)) "__init__" = some (some (.ref (ma K (ga K d.name) "__init__")))
  inT : PySem.W.typeIn K (.ref (ma K (ga K d.name) "__init__")) = some (.type "function")
  no : ∀ p ∈ d.ps, PySem.W.findIn K (.ref (ga K d.name)) p = some none
  mro : ∃ cd, PySem.W.clsIn K (ga K d.name) = some cd ∧ cd.mro = .ref (ga K d.name) :: .ref Kin :: veBase

theorem refsVE_kin {Kin : Addr} : PySem.HandSPX.refsVE (.ref Kin :: veBase) = true := by
  show PySem.HandSPX.refsVE veBase = true
  decide +kernel
theorem ErrD.ok_ok {K : PySem.W.Frag} {Kin : Addr} {d : ErrD} (h : d.ok K Kin = true) : ErrOk K Kin d := by
  obtain ⟨h1, h⟩ := ba h
  obtain ⟨h2, h⟩ := ba h
  obtain ⟨h3, h⟩ := ba h
  obtain ⟨h4, h⟩ := ba h
  obtain ⟨h5, h⟩ := ba h
  obtain ⟨h6, h⟩ := ba h
  obtain ⟨h7, h⟩ := ba h
  obtain ⟨h8, h9⟩ := ba h
  obtain ⟨nm, q, N, bs, sn, sub, ab, col, dd, k0, k1, k2, k3, k5, hC⟩ := shapeB_ok h1
  have hcl : PySem.W.clsIn K (ga K d.name) = some { name := nm, bases := bs, mro := .ref (ga K d.name) :: .ref Kin :: veBase, ns := N, qualname := q, hasDict := true, slotNames := sn, subclasses := sub, abstract := ab, collection := col, hasDel := false } := by
    unfold PySem.W.clsIn
    rw [hC]
    all_goals rfl
  have X := xfB_ok h2
  refine ⟨⟨⟨nm, q, N, bs, _, sn, sub, ab, col, dd, k0, k1, k2, k3, k5, hC, refsVE_kin⟩, eqO_ok h3, X.exC, of_decide_eq_true h4, h5⟩, ⟨X, by rw [hcl]; rfl, eqO_ok h6, ?_⟩, eqO_ok h7, of_decide_eq_true h8, fun p hp => eqO_ok (List.all_eq_true.mp h9 p hp), ⟨_, hcl, rfl⟩⟩
  unfold PySem.W.mroIn
  rw [hcl]
  show (if ((Value.ref (ga K d.name) :: .ref Kin :: veBase).isEmpty) = true then none else some ((Value.ref (ga K d.name) :: .ref Kin :: veBase).contains (.type "object"))) = some true
  rw [if_neg (by exact Bool.false_ne_true)]
  have e : (Value.ref (ga K d.name) :: .ref Kin :: veBase).contains (.type "object") = veBase.contains (.type "object") := rfl
  rw [e]
  exact congrArg some (by decide +kernel)

/-- isinstance of one of them against another -/
theorem kit_err {K : PySem.W.Frag} {Kin C D : Addr} {cd cd' : ClassData} (hC : PySem.W.clsIn K C = some cd) (mC : cd.mro = .ref C :: .ref Kin :: veBase) (hD : PySem.W.clsIn K D = some cd') (tD : PySem.W.typeIn K (.ref D) = some (.type "type")) :
    PySem.W.kitOne K (.ref C) (.ref D) = some (decide (C = D) || decide (Kin = D)) := by
  unfold PySem.W.kitOne
  by_cases e : C = D
  · subst e
    have e1 : ((Value.ref C) == (Value.ref C)) = true := beq_iff_eq.mpr rfl
    rw [if_pos e1]
    simp
  · have e1 : ¬ ((Value.ref C) == (Value.ref D)) = true := fun z => e (Value.ref.inj (beq_iff_eq.mp z))
    rw [if_neg e1]
    show (if ((PySem.W.clsIn K D).isSome && PySem.W.typeIn K (.ref D) == some (.type "type")) = true then PySem.W.subIn K (.ref C) (.ref D) else none) = _
    have e2 : ((PySem.W.clsIn K D).isSome && PySem.W.typeIn K (.ref D) == some (.type "type")) = true := by
      rw [hD, tD] <;> rfl
    rw [if_pos e2]
    show PySem.W.mroIn K C (.ref D) = _
    unfold PySem.W.mroIn
    rw [hC]
    show (if cd.mro.isEmpty = true then none else some (cd.mro.contains (.ref D))) = _
    rw [mC]
    show (if (List.isEmpty (Value.ref C :: .ref Kin :: veBase)) = true then none else some ((Value.ref C :: .ref Kin :: veBase).contains (.ref D))) = _
    rw [if_neg (by exact Bool.false_ne_true)]
    have tail : veBase.contains (Value.ref D) = false := by
      show ([Value.type "ValueError", .type "Exception", .type "BaseException", .type "object"] : List Value).contains (Value.ref D) = false
      rfl
    have d1 : decide (C = D) = false := decide_eq_false e
    rw [d1, Bool.false_or, List.contains_cons, List.contains_cons, tail, Bool.or_false]
    have b1 : (Value.ref D == Value.ref C) = false := beq_eq_false_iff_ne.mpr fun z => e (Value.ref.inj z).symm
    rw [b1, Bool.false_or]
    congr 1
    by_cases k : Kin = D
    · subst k
      rw [decide_eq_true rfl]
      exact beq_iff_eq.mpr rfl
    · rw [decide_eq_false k]
      exact beq_eq_false_iff_ne.mpr fun z => k (Value.ref.inj z).symm
/-- and against ValueError -/
theorem kit_val {K : PySem.W.Frag} {Kin C : Addr} {cd : ClassData} (hC : PySem.W.clsIn K C = some cd) (mC : cd.mro = .ref C :: .ref Kin :: veBase) : PySem.W.kitOne K (.ref C) (.type "ValueError") = some true := by
  unfold PySem.W.kitOne
  have e1 : ¬ ((Value.ref C) == (Value.type "ValueError")) = true := fun z => by
    have q := beq_iff_eq.mp z
    cases q
  rw [if_neg e1]
  show (if PySem.W.kitMeta "ValueError" = true then PySem.W.subIn K (.ref C) (.type "ValueError") else none) = _
  rw [if_pos (by decide +kernel)]
  show PySem.W.mroIn K C (.type "ValueError") = _
  unfold PySem.W.mroIn
  rw [hC]
  show (if cd.mro.isEmpty = true then none else some (cd.mro.contains (.type "ValueError"))) = _
  rw [mC]
  show (if (List.isEmpty (Value.ref C :: .ref Kin :: veBase)) = true then none else some ((Value.ref C :: .ref Kin :: veBase).contains (.type "ValueError"))) = _
  rw [if_neg (by exact Bool.false_ne_true)]
  have e : (Value.ref C :: .ref Kin :: veBase).contains (.type "ValueError") = veBase.contains (.type "ValueError") := rfl
  rw [e]
  exact congrArg some (by decide +kernel)

/-! ### the head's look: facts, defs, and one Bool more -/
abbrev AlK : Type := AlD × Bool
def obsK (fa : List Fa) (fn : List DefD) (ex : PySem.W.Frag → Bool) (K : PySem.W.Frag) : AlK := (obsD fa fn K, ex K)
/-- what an object leads on to: a def's code, a class's own names, a dict's values -/
def refK (o : Obj) : List Addr :=
  match o.data with
  | .func fd => refV fd.code ++ refV fd.defaults
  | .cls cd => [cd.ns]
  | .dict es _ => es.toList.flatMap fun e => refV e.val
  | _ => []
def stepK (g : Addr → Option Obj) (as : List Addr) : List Addr := as.flatMap fun a =>
  match g a with
  | some o => refK o
  | none => []
/-- the module's names, what they stand for, the classes' names, the methods, their codes: level by level -/
def lvK (g : Addr → Option Obj) : Nat → List Addr → List Addr
  | 0, as => as
  | n + 1, as => as ++ lvK g n (stepK g as)
def frK (g : Addr → Option Obj) : PySem.W.Frag := frG g (lvK g 4 [mainGlobals])
def obsKG (fa : List Fa) (fn : List DefD) (ex : PySem.W.Frag → Bool) (g : Addr → Option Obj) : AlK := obsK fa fn ex (frK g)
structure SaysK (fa : List Fa) (fn : List DefD) (ex : PySem.W.Frag → Bool) (K : PySem.W.Frag) : Prop where
  d : SaysD fa fn K
  x : ex K = true
def hookK (fa : List Fa) (fn : List DefD) (ex : PySem.W.Frag → Bool) : PySem.W.Hook where
  α := AlK
  obs s := obsKG fa fn ex s.heap.get?
  val _ := (valD fn, true)
  says _ h := ∃ K : PySem.W.Frag, K.In h ∧ SaysK fa fn ex K
  of := fun _ _ e => ⟨_, frG_in, ⟨congrArg (fun z : AlK => z.1) e, congrArg (fun z : AlK => z.2) e⟩⟩
  keeps := fun _ _ _ ⟨K, hK, c⟩ k => ⟨K, hK.keeps k, c⟩
theorem obsKG_eq {fa : List Fa} {fn : List DefD} {ex : PySem.W.Frag → Bool} {g : Addr → Option Obj} {s : Shared} (h : ∀ a, g a = s.heap.get? a) : obsKG fa fn ex g = (hookK fa fn ex).obs s := by
  have e : g = s.heap.get? := funext h
  subst e
  rfl
end Kx

set_option maxRecDepth 100000
set_option maxHeartbeats 0
namespace K16
open PySem PySem.Spec PyProof.Rows L2 He Kx
def errs : List ErrD := [⟨"BadWorld", ["index", "what"]⟩, ⟨"TooMany", ["count"]⟩, ⟨"NoClass", ["cls"]⟩, ⟨"BadHues", ["index"]⟩, ⟨"NotLine", ["cls", "first", "second"]⟩, ⟨"NoHue", ["hue"]⟩, ⟨"NoLadder", ["cls"]⟩]
def dM (i j : Nat) (x m qn : Str) : DefD := ⟨(x, some m), m, qn, defArgs (inClass (top i) j), defBody (inClass (top i) j), defScope (inClass (top i) j), [], []⟩
def dF (i : Nat) (x : Str) (dv : List Dv) : DefD := ⟨(x, none), x, x, defArgs (top i), defBody (top i), defScope (top i), dv, []⟩
def fn : List DefD := [dF 11 "is_sequence" [],
  dF 12 "is_whole" [.non, .non],
  dF 13 "is_unlike_row" [],
  dF 15 "check_class" [],
  dF 16 "common_heirs" [],
  dF 17 "on_line" [],
  dF 24 "is_hue" [],
  dF 25 "check_hues" [],
  dF 26 "hue_fault" [],
  dF 27 "clash_among" [],
  dF 28 "apart_pairs" [],
  dF 29 "fewest_hues" [],
  dF 30 "first_hues" [],
  dF 31 "first_row" [],
  dF 32 "floor_lot" [],
  dF 33 "longer_lots" [],
  dF 40 "entry_fault" [],
  dF 41 "elder_rows" [],
  dF 42 "heir_rows" [],
  dF 44 "_law_hand" [],
  dF 45 "_law_mixed" [],
  dF 46 "_law_take" [],
  dF 47 "_law_bases" [],
  dF 48 "_law_methods" [],
  dF 49 "_law_shape" [],
  dF 50 "_law_classes" [],
  dF 51 "_law_elders" [],
  dF 52 "_law_int" [],
  dF 53 "_law_exact" [],
  dF 54 "_law_kin" [],
  dF 55 "_law_pairs" [],
  dF 56 "_law_pair_among" [],
  dF 57 "_law_clash" [],
  dF 58 "_law_depths" [],
  dF 59 "_law_first_hues" [],
  dF 60 "_law_first_lot" [],
  dF 61 "_law_told_right" [],
  dF 62 "_law_look_right" [],
  dF 63 "law" [],
  dM 3 0 "BadWorld" "__init__" "BadWorld.__init__",
  dM 4 0 "TooMany" "__init__" "TooMany.__init__",
  dM 5 0 "NoClass" "__init__" "NoClass.__init__",
  dM 6 0 "BadHues" "__init__" "BadHues.__init__",
  dM 7 0 "NotLine" "__init__" "NotLine.__init__",
  dM 8 0 "NoHue" "__init__" "NoHue.__init__",
  dM 9 0 "NoLadder" "__init__" "NoLadder.__init__",
  dM 21 0 "Clash" "__init__" "Clash.__init__",
  dM 22 0 "Look" "__init__" "Look.__init__",
  dM 23 0 "Ladders" "__init__" "Ladders.__init__",
  dM 23 1 "Ladders" "ladder_of" "Ladders.ladder_of",
  dM 23 2 "Ladders" "depth_of" "Ladders.depth_of",
  dM 23 3 "Ladders" "one_look" "Ladders.one_look",
  dM 39 0 "World" "__init__" "World.__init__",
  dM 39 6 "World" "__len__" "World.__len__",
  dM 39 7 "World" "__iter__" "World.__iter__",
  dM 39 8 "World" "__eq__" "World.__eq__"]
def fa : List Fa := [.free "len",
  .free "int",
  .free "abs",
  .free "isinstance",
  .free "range",
  .free "set",
  .free "sorted",
  .free "enumerate",
  .free "tuple",
  .free "list",
  .free "bool",
  .free "str",
  .free "max",
  .free "min",
  .free "all",
  .free "ValueError",
  .int "MOST_HUE" 7,
  .int "MOST_FOR_HUES" 8,
  .int "MOST_CLASSES" 12,
  .int "MOST_FIELDS" 3,
  .int "MOST_METHODS" 3,
  .int "METHOD_NAMES" 6,
  .glo "is_sequence",
  .glo "is_whole",
  .glo "is_unlike_row",
  .glo "check_class",
  .glo "common_heirs",
  .glo "on_line",
  .glo "is_hue",
  .glo "check_hues",
  .glo "hue_fault",
  .glo "clash_among",
  .glo "apart_pairs",
  .glo "fewest_hues",
  .glo "first_hues",
  .glo "first_row",
  .glo "floor_lot",
  .glo "longer_lots",
  .glo "entry_fault",
  .glo "elder_rows",
  .glo "heir_rows",
  .glo "_law_hand",
  .glo "_law_mixed",
  .glo "_law_take",
  .glo "_law_bases",
  .glo "_law_methods",
  .glo "_law_shape",
  .glo "_law_classes",
  .glo "_law_elders",
  .glo "_law_int",
  .glo "_law_exact",
  .glo "_law_kin",
  .glo "_law_pairs",
  .glo "_law_pair_among",
  .glo "_law_clash",
  .glo "_law_depths",
  .glo "_law_first_hues",
  .glo "_law_first_lot",
  .glo "_law_told_right",
  .glo "_law_look_right",
  .glo "law",
  .glo "KinError",
  .glo "BadWorld",
  .exm "BadWorld" "BadWorld" true,
  .glo "TooMany",
  .exm "TooMany" "TooMany" true,
  .glo "NoClass",
  .exm "NoClass" "NoClass" true,
  .glo "BadHues",
  .exm "BadHues" "BadHues" true,
  .glo "NotLine",
  .exm "NotLine" "NotLine" true,
  .glo "NoHue",
  .exm "NoHue" "NoHue" true,
  .glo "NoLadder",
  .exm "NoLadder" "NoLadder" true,
  .glo "Clash",
  .cls "Clash",
  .mkr "Clash",
  .noat "Clash" "cls",
  .noat "Clash" "first",
  .noat "Clash" "second",
  .glo "Look",
  .cls "Look",
  .mkr "Look",
  .noat "Look" "hue",
  .noat "Look" "place",
  .noat "Look" "found",
  .noat "Look" "answer",
  .glo "Ladders",
  .cls "Ladders",
  .mkr "Ladders",
  .noat "Ladders" "world",
  .noat "Ladders" "hues",
  .meth "Ladders" "ladder_of",
  .meth "Ladders" "depth_of",
  .meth "Ladders" "one_look",
  .glo "World",
  .cls "World",
  .mkr "World",
  .noat "World" "classes",
  .noat "World" "bases",
  .noat "World" "owns",
  .noat "World" "methods",
  .noat "World" "elders",
  .noat "World" "heirs",
  .meth "World" "__len__",
  .meth "World" "__iter__",
  .meth "World" "__eq__"]
def exA (K : PySem.W.Frag) : Bool := errs.all fun d => d.ok K (ga K "KinError")
def exC (K : PySem.W.Frag) : Bool := ((eqO (PySem.W.findIn K (.ref (ga K "World")) "__class__") (some (some (.builtin "object.__class__"))) && decide (PySem.W.mroIn K (ga K "World") (.type "object") = some true)) && (decide (PySem.W.specialIn K (.builtin "object.__class__") "__get__" = some (some (.builtin "getset_descriptor.__get__"))) && decide (PySem.W.takesIn K (.builtin "object.__class__") = some true)))
def ex (K : PySem.W.Frag) : Bool := exA K && exC K
def loose0 : List PySem.Str := ["_wall", "KinError", "BadWorld", "TooMany", "NoClass", "BadHues", "NotLine", "NoHue", "NoLadder", "is_sequence", "is_whole", "is_unlike_row", "check_class", "common_heirs", "on_line", "MOST_HUE", "MOST_FOR_HUES", "Clash", "Look", "Ladders", "is_hue", "check_hues", "hue_fault", "clash_among"]
def loose1 : List PySem.Str := ["apart_pairs", "fewest_hues", "first_hues", "first_row", "floor_lot", "longer_lots", "MOST_CLASSES", "MOST_FIELDS", "MOST_METHODS", "METHOD_NAMES", "World", "entry_fault", "elder_rows", "heir_rows", "_law_hand", "_law_mixed", "_law_take", "_law_bases", "_law_methods", "_law_shape", "_law_classes", "_law_elders", "_law_int", "_law_exact"]
def loose2 : List PySem.Str := ["_law_kin", "_law_pairs", "_law_pair_among", "_law_clash", "_law_depths", "_law_first_hues", "_law_first_lot", "_law_told_right", "_law_look_right"]
def loose : List PySem.Str := loose0 ++ loose1 ++ loose2
abbrev R : PySem.W.OpenRow := PySem.W.OpenLaw.row PySem.Challenge.rw_headamid_k16_whole_fewest_hues_gone_thro
abbrev hk : PySem.W.Hook := hookK fa fn ex
def ob (s : PySem.W.SharedT) : AlK := obsKG fa fn ex (HandSHeadRun.getT s)
theorem ob_eq (s : PySem.W.SharedT) : ob s = hk.obs s.abs := obsKG_eq (HandSHeadRun.getT_eq s)
noncomputable def endO (w : World) (os : OsState) : Option PySem.W.SharedT := HandSHeadRun.endF (HandSHeadRun.stepQ (HandSHeadRun.denQ HandSHeadRun.tabQ) R.prog w) 40000 R.prog w os
def fr (s : PySem.W.SharedT) : PySem.W.Frag := frK (HandSHeadRun.getT s)
open PySem.W PySem.Calls in
theorem run1 (w : World) (os : OsState) : (endO w os).map (fun s => (HandSHeadRun.looksF R.prog (boot_heap w.params) s.abs, HandSHeadRun.seenQ (PySem.W.view R.prog [63]) loose (importedModules R.prog.main.body) (fun s => PySem.W.xlAt (PySem.W.view R.prog [63]) [] s && PySem.W.recOk R.toRowW.records s) s.abs)) = some (true, PySem.W.openGood (PySem.W.view R.prog [63]) loose) := by
  kernel_rfl
theorem run2 (w : World) (os : OsState) : (endO w os).map (fun s => obsD fa fn (fr s)) = some (valD fn) := by
  kernel_rfl
theorem run3 (w : World) (os : OsState) : (endO w os).map (fun s => ex (fr s)) = some true := by
  kernel_rfl
theorem run (w : World) : HandSHeadRun.RunEq R (PySem.W.view R.prog [63]) hk ob 40000 loose w := by
  intro os
  have h1 := run1 w os
  have h2 := run2 w os
  have h3 := run3 w os
  show (endO w os).map _ = _
  cases e : endO w os with
  | none =>
    rw [e] at h1
    cases h1
  | some s =>
    rw [e] at h1 h2 h3
    obtain ⟨a1, a2⟩ := Prod.mk.inj (Option.some.inj h1)
    have b2 : obsD fa fn (fr s) = valD fn := Option.some.inj h2
    have b3 : ex (fr s) = true := Option.some.inj h3
    have b : ob s = (valD fn, true) := Prod.ext b2 b3
    exact congrArg some (Prod.ext a1 (Prod.ext a2 b))
end K16

set_option maxRecDepth 100000
set_option maxHeartbeats 16000000
namespace K16
open PySem PySem.Spec PyProof.Rows L2 He Kx Kw
theorem err_x {K : PySem.W.Frag} {mg : Str → Option Value} {Kin : Addr} {d : ErrD} (h : ErrOk K Kin d) (m : mg d.name = some (.ref (ga K d.name))) : ErrX K mg d.name d.ps (ga K d.name) (ma K (ga K d.name) "__init__") := ⟨h.oex, h.ini, h.inT, h.no, m⟩
theorem facts {P : Program} {w : World} {K : PySem.W.Frag} {h : Heap} {mg : Str → Option Value} {f : Addr} (X : K.In h) (G : h.Ns mainGlobals mg) (hfa : mg ("law" : Str) = some (.ref f)) (c : SaysK fa fn ex K) :
    ∃ fd : FuncData, (∀ (s : Shared) (v : Value), BindsTo s fd ⟨[v], []⟩ [("_law_script", v)]) ∧ ∀ base : Heap, K.In base → base.Ns mainGlobals mg → FnOk P w K mg base CX0 17 f fd ["_law_script"] (spLaw K) := by
  have e := hfa.symm.trans (glo_ok X G (c.d.fact 60 (f := .glo "law") rfl))
  cases e
  obtain ⟨x1, x2⟩ := ba c.x
  have eo : ∀ d ∈ errs, ErrOk K (ga K "KinError") d := fun d hd => ErrD.ok_ok (List.all_eq_true.mp x1 d hd)
  have E0' := eo ⟨"BadWorld", ["index", "what"]⟩ (List.mem_of_getElem? (i := 0) rfl)
  have E1' := eo ⟨"NoClass", ["cls"]⟩ (List.mem_of_getElem? (i := 2) rfl)
  have E3' := eo ⟨"NotLine", ["cls", "first", "second"]⟩ (List.mem_of_getElem? (i := 4) rfl)
  have TBW : ErrX K mg "BadWorld" ["index", "what"] (ga K "BadWorld") (ma K (ga K "BadWorld") "__init__") := err_x E0' (glo_ok X G (c.d.fact 62 (f := .glo "BadWorld") rfl))
  have TNC : ErrX K mg "NoClass" ["cls"] (ga K "NoClass") (ma K (ga K "NoClass") "__init__") := err_x E1' (glo_ok X G (c.d.fact 66 (f := .glo "NoClass") rfl))
  have TNL : ErrX K mg "NotLine" ["cls", "first", "second"] (ga K "NotLine") (ma K (ga K "NotLine") "__init__") := err_x E3' (glo_ok X G (c.d.fact 70 (f := .glo "NotLine") rfl))
  have B : Fr mg := ⟨(free_ok X G (c.d.fact 3 (f := .free "isinstance") rfl)), (free_ok X G (c.d.fact 9 (f := .free "list") rfl)), (free_ok X G (c.d.fact 8 (f := .free "tuple") rfl)), (free_ok X G (c.d.fact 10 (f := .free "bool") rfl)), (free_ok X G (c.d.fact 1 (f := .free "int") rfl)), (free_ok X G (c.d.fact 0 (f := .free "len") rfl)), (free_ok X G (c.d.fact 5 (f := .free "set") rfl)), (free_ok X G (c.d.fact 4 (f := .free "range") rfl)), (free_ok X G (c.d.fact 6 (f := .free "sorted") rfl)), (free_ok X G (c.d.fact 7 (f := .free "enumerate") rfl))⟩
  have Z : Cst mg := ⟨(int_ok X G (c.d.fact 19 (f := .int "MOST_FIELDS" 3) rfl)), (int_ok X G (c.d.fact 20 (f := .int "MOST_METHODS" 3) rfl)), (int_ok X G (c.d.fact 21 (f := .int "METHOD_NAMES" 6) rfl)), (int_ok X G (c.d.fact 18 (f := .int "MOST_CLASSES" 12) rfl))⟩
  have z7 := (int_ok X G (c.d.fact 16 (f := .int "MOST_HUE" 7) rfl))
  have z8 := (int_ok X G (c.d.fact 17 (f := .int "MOST_FOR_HUES" 8) rfl))
  have TC : ClsWorld K mg (ga K "World") := ⟨cls_ok (c.d.fact 98 (f := .cls "World") rfl), fun f hf => by
    rcases List.mem_cons.mp hf with rfl | hf
    · exact noat_ok (c.d.fact 100 (f := .noat "World" "classes") rfl)
    rcases List.mem_cons.mp hf with rfl | hf
    · exact noat_ok (c.d.fact 101 (f := .noat "World" "bases") rfl)
    rcases List.mem_cons.mp hf with rfl | hf
    · exact noat_ok (c.d.fact 102 (f := .noat "World" "owns") rfl)
    rcases List.mem_cons.mp hf with rfl | hf
    · exact noat_ok (c.d.fact 103 (f := .noat "World" "methods") rfl)
    rcases List.mem_cons.mp hf with rfl | hf
    · exact noat_ok (c.d.fact 104 (f := .noat "World" "elders") rfl)
    rcases List.mem_cons.mp hf with rfl | hf
    · exact noat_ok (c.d.fact 105 (f := .noat "World" "heirs") rfl)
    cases hf⟩
  have TK : ClsF K (ga K "Clash") ["cls", "first", "second"] := ⟨cls_ok (c.d.fact 77 (f := .cls "Clash") rfl), fun f hf => by
    rcases List.mem_cons.mp hf with rfl | hf
    · exact noat_ok (c.d.fact 79 (f := .noat "Clash" "cls") rfl)
    rcases List.mem_cons.mp hf with rfl | hf
    · exact noat_ok (c.d.fact 80 (f := .noat "Clash" "first") rfl)
    rcases List.mem_cons.mp hf with rfl | hf
    · exact noat_ok (c.d.fact 81 (f := .noat "Clash" "second") rfl)
    cases hf⟩
  have TLo : ClsF K (ga K "Look") ["hue", "place", "found", "answer"] := ⟨cls_ok (c.d.fact 83 (f := .cls "Look") rfl), fun f hf => by
    rcases List.mem_cons.mp hf with rfl | hf
    · exact noat_ok (c.d.fact 85 (f := .noat "Look" "hue") rfl)
    rcases List.mem_cons.mp hf with rfl | hf
    · exact noat_ok (c.d.fact 86 (f := .noat "Look" "place") rfl)
    rcases List.mem_cons.mp hf with rfl | hf
    · exact noat_ok (c.d.fact 87 (f := .noat "Look" "found") rfl)
    rcases List.mem_cons.mp hf with rfl | hf
    · exact noat_ok (c.d.fact 88 (f := .noat "Look" "answer") rfl)
    cases hf⟩
  have TLd : ClsF K (ga K "Ladders") ["world", "hues"] := ⟨cls_ok (c.d.fact 90 (f := .cls "Ladders") rfl), fun f hf => by
    rcases List.mem_cons.mp hf with rfl | hf
    · exact noat_ok (c.d.fact 92 (f := .noat "Ladders" "world") rfl)
    rcases List.mem_cons.mp hf with rfl | hf
    · exact noat_ok (c.d.fact 93 (f := .noat "Ladders" "hues") rfl)
    cases hf⟩
  obtain ⟨fdS, FS⟩ := c.d.def_ 0 (d := dF 11 "is_sequence" []) rfl
  obtain ⟨fdW, FW⟩ := c.d.def_ 1 (d := dF 12 "is_whole" [.non, .non]) rfl
  obtain ⟨fdU, FU⟩ := c.d.def_ 2 (d := dF 13 "is_unlike_row" []) rfl
  obtain ⟨fdC, FC⟩ := c.d.def_ 3 (d := dF 15 "check_class" []) rfl
  obtain ⟨fdL, FL⟩ := c.d.def_ 5 (d := dF 17 "on_line" []) rfl
  obtain ⟨fdIH, FIH⟩ := c.d.def_ 6 (d := dF 24 "is_hue" []) rfl
  obtain ⟨fdCH, FCH⟩ := c.d.def_ 7 (d := dF 25 "check_hues" []) rfl
  obtain ⟨fdHF, FHF⟩ := c.d.def_ 8 (d := dF 26 "hue_fault" []) rfl
  obtain ⟨fdCA, FCA⟩ := c.d.def_ 9 (d := dF 27 "clash_among" []) rfl
  obtain ⟨fdEF, FEF⟩ := c.d.def_ 16 (d := dF 40 "entry_fault" []) rfl
  obtain ⟨fdER, FER⟩ := c.d.def_ 17 (d := dF 41 "elder_rows" []) rfl
  obtain ⟨fdHR, FHR⟩ := c.d.def_ 18 (d := dF 42 "heir_rows" []) rfl
  obtain ⟨fdHa, FHa⟩ := c.d.def_ 19 (d := dF 44 "_law_hand" []) rfl
  obtain ⟨fdMi, FMi⟩ := c.d.def_ 20 (d := dF 45 "_law_mixed" []) rfl
  obtain ⟨fdTa, FTa⟩ := c.d.def_ 21 (d := dF 46 "_law_take" []) rfl
  obtain ⟨fdBa, FBa⟩ := c.d.def_ 22 (d := dF 47 "_law_bases" []) rfl
  obtain ⟨fdMe, FMe⟩ := c.d.def_ 23 (d := dF 48 "_law_methods" []) rfl
  obtain ⟨fdSh, FSh⟩ := c.d.def_ 24 (d := dF 49 "_law_shape" []) rfl
  obtain ⟨fdCl, FCl⟩ := c.d.def_ 25 (d := dF 50 "_law_classes" []) rfl
  obtain ⟨fdEl, FEl⟩ := c.d.def_ 26 (d := dF 51 "_law_elders" []) rfl
  obtain ⟨fdIn, FIn⟩ := c.d.def_ 27 (d := dF 52 "_law_int" []) rfl
  obtain ⟨fdEx, FEx⟩ := c.d.def_ 28 (d := dF 53 "_law_exact" []) rfl
  obtain ⟨fdKi, FKi⟩ := c.d.def_ 29 (d := dF 54 "_law_kin" []) rfl
  obtain ⟨fdPA, FPA⟩ := c.d.def_ 31 (d := dF 56 "_law_pair_among" []) rfl
  obtain ⟨fdDe, FDe⟩ := c.d.def_ 33 (d := dF 58 "_law_depths" []) rfl
  obtain ⟨fdPs, FPs⟩ := c.d.def_ 30 (d := dF 55 "_law_pairs" []) rfl
  obtain ⟨fdTo, FTo⟩ := c.d.def_ 36 (d := dF 61 "_law_told_right" []) rfl
  obtain ⟨fdLR, FLR⟩ := c.d.def_ 37 (d := dF 62 "_law_look_right" []) rfl
  obtain ⟨fdLC, FLC⟩ := c.d.def_ 32 (d := dF 57 "_law_clash" []) rfl
  obtain ⟨fdCm, FCm⟩ := c.d.def_ 4 (d := dF 16 "common_heirs" []) rfl
  obtain ⟨fdAP, FAP⟩ := c.d.def_ 10 (d := dF 28 "apart_pairs" []) rfl
  obtain ⟨fdFR, FFR⟩ := c.d.def_ 13 (d := dF 31 "first_row" []) rfl
  obtain ⟨fdFH, FFH⟩ := c.d.def_ 12 (d := dF 30 "first_hues" []) rfl
  obtain ⟨fdFe, FFe⟩ := c.d.def_ 11 (d := dF 29 "fewest_hues" []) rfl
  obtain ⟨fdLo, FLo⟩ := c.d.def_ 15 (d := dF 33 "longer_lots" []) rfl
  obtain ⟨fdFl, FFl⟩ := c.d.def_ 14 (d := dF 32 "floor_lot" []) rfl
  obtain ⟨fdLH, FLH⟩ := c.d.def_ 34 (d := dF 59 "_law_first_hues" []) rfl
  obtain ⟨fdLL, FLL⟩ := c.d.def_ 35 (d := dF 60 "_law_first_lot" []) rfl
  obtain ⟨fdLaw, FLaw⟩ := c.d.def_ 38 (d := dF 63 "law" []) rfl
  obtain ⟨fdBW, FBW⟩ := c.d.def_ 39 (d := dM 3 0 "BadWorld" "__init__" "BadWorld.__init__") rfl
  obtain ⟨fdNC, FNC⟩ := c.d.def_ 41 (d := dM 5 0 "NoClass" "__init__" "NoClass.__init__") rfl
  obtain ⟨fdNL, FNL⟩ := c.d.def_ 43 (d := dM 7 0 "NotLine" "__init__" "NotLine.__init__") rfl
  obtain ⟨fdCI, FCI⟩ := c.d.def_ 46 (d := dM 21 0 "Clash" "__init__" "Clash.__init__") rfl
  obtain ⟨fdLk, FLkI⟩ := c.d.def_ 47 (d := dM 22 0 "Look" "__init__" "Look.__init__") rfl
  obtain ⟨fdLI, FLI⟩ := c.d.def_ 48 (d := dM 23 0 "Ladders" "__init__" "Ladders.__init__") rfl
  obtain ⟨fdLO, FLO⟩ := c.d.def_ 49 (d := dM 23 1 "Ladders" "ladder_of" "Ladders.ladder_of") rfl
  obtain ⟨fdDO, FDO⟩ := c.d.def_ 50 (d := dM 23 2 "Ladders" "depth_of" "Ladders.depth_of") rfl
  obtain ⟨fdOL, FOL⟩ := c.d.def_ 51 (d := dM 23 3 "Ladders" "one_look" "Ladders.one_look") rfl
  obtain ⟨fdWI, FWI⟩ := c.d.def_ 52 (d := dM 39 0 "World" "__init__" "World.__init__") rfl
  have b := FunD.bindsA (ps := ["_law_script"]) FLaw fun _ _ _ _ _ _ us hl => match us, hl with | [_], _ => rfl
  refine ⟨fdLaw, fun s v => b s [v] rfl, fun base _ _ => ?_⟩
  have GHa := ok_hand (P := P) (w := w) (base := base) FHa (free_ok X G (c.d.fact 1 (f := .free "int") rfl)) (free_ok X G (c.d.fact 0 (f := .free "len") rfl)) (free_ok X G (c.d.fact 2 (f := .free "abs") rfl))
  have GTa := ok_take (P := P) (w := w) (base := base) FTa FMi (glo_ok X G (c.d.fact 42 (f := .glo "_law_mixed") rfl)) B.int B.len
  have GBa := ok_bases (P := P) (w := w) (base := base) FBa B FTa (glo_ok X G (c.d.fact 43 (f := .glo "_law_take") rfl)) FMi (glo_ok X G (c.d.fact 42 (f := .glo "_law_mixed") rfl))
  have GMe := ok_methods (P := P) (w := w) (base := base) FMe B FTa (glo_ok X G (c.d.fact 43 (f := .glo "_law_take") rfl)) FMi (glo_ok X G (c.d.fact 42 (f := .glo "_law_mixed") rfl))
  have GCl := ok_classes (P := P) (w := w) (base := base) FCl B FTa (glo_ok X G (c.d.fact 43 (f := .glo "_law_take") rfl)) FMi (glo_ok X G (c.d.fact 42 (f := .glo "_law_mixed") rfl)) FBa (glo_ok X G (c.d.fact 44 (f := .glo "_law_bases") rfl)) FSh (glo_ok X G (c.d.fact 46 (f := .glo "_law_shape") rfl)) FMe (glo_ok X G (c.d.fact 45 (f := .glo "_law_methods") rfl)) (free_ok X G (c.d.fact 12 (f := .free "max") rfl)) (free_ok X G (c.d.fact 13 (f := .free "min") rfl))
  have GW := ok_world (P := P) (w := w) (base := base) FWI B Z TC FS (glo_ok X G (c.d.fact 22 (f := .glo "is_sequence") rfl)) FW (glo_ok X G (c.d.fact 23 (f := .glo "is_whole") rfl)) FU (glo_ok X G (c.d.fact 24 (f := .glo "is_unlike_row") rfl)) FEF (glo_ok X G (c.d.fact 38 (f := .glo "entry_fault") rfl)) FER (glo_ok X G (c.d.fact 39 (f := .glo "elder_rows") rfl)) FHR (glo_ok X G (c.d.fact 40 (f := .glo "heir_rows") rfl)) FBW TBW
  have GKi := ok_kin (P := P) (w := w) (base := base) FKi B FEl (glo_ok X G (c.d.fact 48 (f := .glo "_law_elders") rfl))
  have GPA := ok_pairAm (P := P) (w := w) (base := base) FPA B
  have GDe := ok_depths (P := P) (w := w) (base := base) FDe B
  have GEx := ok_exact (P := P) (w := w) (base := base) FEx B (free_ok X G (c.d.fact 11 (f := .free "str") rfl)) (glo_ok X G (c.d.fact 50 (f := .glo "_law_exact") rfl)) FIn (glo_ok X G (c.d.fact 49 (f := .glo "_law_int") rfl))
  have GPs := ok_pairs (P := P) (w := w) (base := base) FPs B FKi (glo_ok X G (c.d.fact 51 (f := .glo "_law_kin") rfl)) GKi
  have GHF := ok_hueFault (P := P) (w := w) (base := base) FHF B TC z7 FL (glo_ok X G (c.d.fact 27 (f := .glo "on_line") rfl)) FC (glo_ok X G (c.d.fact 25 (f := .glo "check_class") rfl)) FW (glo_ok X G (c.d.fact 23 (f := .glo "is_whole") rfl)) FNC TNC FCI TK (mkr_ok (c.d.fact 78 (f := .mkr "Clash") rfl)) (glo_ok X G (c.d.fact 76 (f := .glo "Clash") rfl)) FS (glo_ok X G (c.d.fact 22 (f := .glo "is_sequence") rfl)) FIH (glo_ok X G (c.d.fact 28 (f := .glo "is_hue") rfl)) FCH (glo_ok X G (c.d.fact 29 (f := .glo "check_hues") rfl)) FCA (glo_ok X G (c.d.fact 31 (f := .glo "clash_among") rfl))
  have GCA := ok_clashAm (P := P) (w := w) (base := base) FCA B TC FL (glo_ok X G (c.d.fact 27 (f := .glo "on_line") rfl)) FC (glo_ok X G (c.d.fact 25 (f := .glo "check_class") rfl)) FW (glo_ok X G (c.d.fact 23 (f := .glo "is_whole") rfl)) FNC TNC FCI TK (mkr_ok (c.d.fact 78 (f := .mkr "Clash") rfl)) (glo_ok X G (c.d.fact 76 (f := .glo "Clash") rfl))
  have GIH := ok_isHue (P := P) (w := w) (base := base) FIH B z7 FW (glo_ok X G (c.d.fact 23 (f := .glo "is_whole") rfl))
  have GLd := ok_ladders (P := P) (w := w) (base := base) FLI TLd FNL TNL B TK FHF (glo_ok X G (c.d.fact 30 (f := .glo "hue_fault") rfl)) GHF
  obtain ⟨GLO, bLO⟩ := ok_ladOf (P := P) (w := w) (base := base) FLO B TC TLd z7 FC (glo_ok X G (c.d.fact 25 (f := .glo "check_class") rfl)) FW (glo_ok X G (c.d.fact 23 (f := .glo "is_whole") rfl)) FNC TNC
  obtain ⟨GDO, bDO⟩ := ok_depOf (P := P) (w := w) (base := base) FDO B TC TLd FC (glo_ok X G (c.d.fact 25 (f := .glo "check_class") rfl)) FW (glo_ok X G (c.d.fact 23 (f := .glo "is_whole") rfl)) FNC TNC (meth_ok (c.d.fact 94 (f := .meth "Ladders" "ladder_of") rfl)) GLO bLO
  obtain ⟨GLkI, bLkI⟩ := ok_lookI (P := P) (w := w) (base := base) FLkI TLo
  obtain ⟨GOL, bOL⟩ := ok_look (P := P) (w := w) (base := base) FOL B TC TLd FC (glo_ok X G (c.d.fact 25 (f := .glo "check_class") rfl)) FW (glo_ok X G (c.d.fact 23 (f := .glo "is_whole") rfl)) FNC TNC (meth_ok (c.d.fact 94 (f := .meth "Ladders" "ladder_of") rfl)) GLO bLO (meth_ok (c.d.fact 95 (f := .meth "Ladders" "depth_of") rfl)) GDO bDO (mkr_ok (c.d.fact 84 (f := .mkr "Look") rfl)) (glo_ok X G (c.d.fact 82 (f := .glo "Look") rfl)) GLkI bLkI
  have GLR := ok_lookR (P := P) (w := w) (base := base) FLR B TLo FEx (glo_ok X G (c.d.fact 50 (f := .glo "_law_exact") rfl)) (GEx 0)
  have GTo := ok_told (P := P) (w := w) (base := base) FTo B TLd FEx (glo_ok X G (c.d.fact 50 (f := .glo "_law_exact") rfl)) (GEx 0) (GEx 1) FDe (glo_ok X G (c.d.fact 55 (f := .glo "_law_depths") rfl)) GDe (meth_ok (c.d.fact 94 (f := .meth "Ladders" "ladder_of") rfl)) GLO bLO (meth_ok (c.d.fact 95 (f := .meth "Ladders" "depth_of") rfl)) GDO bDO (meth_ok (c.d.fact 96 (f := .meth "Ladders" "one_look") rfl)) GOL bOL FLR (glo_ok X G (c.d.fact 59 (f := .glo "_law_look_right") rfl)) GLR
  have GLC := ok_lclash (P := P) (w := w) (base := base) FLC B FPA (glo_ok X G (c.d.fact 53 (f := .glo "_law_pair_among") rfl))
  have GAP := ok_apart (P := P) (w := w) (base := base) FAP B TC FCm (glo_ok X G (c.d.fact 26 (f := .glo "common_heirs") rfl)) FL (glo_ok X G (c.d.fact 27 (f := .glo "on_line") rfl)) FC (glo_ok X G (c.d.fact 25 (f := .glo "check_class") rfl)) FW (glo_ok X G (c.d.fact 23 (f := .glo "is_whole") rfl)) FNC TNC
  have GFH := ok_fhues (P := P) (w := w) (base := base) FFH B FFR (glo_ok X G (c.d.fact 35 (f := .glo "first_row") rfl))
  have GFe := ok_fewest (P := P) (w := w) (base := base) FFe B TC z8 FFH (glo_ok X G (c.d.fact 34 (f := .glo "first_hues") rfl)) GFH FAP (glo_ok X G (c.d.fact 32 (f := .glo "apart_pairs") rfl)) GAP
  have GLo := ok_longer (P := P) (w := w) (base := base) FLo B (free_ok X G (c.d.fact 14 (f := .free "all") rfl))
  have GFl := ok_floor (P := P) (w := w) (base := base) FFl B TC z8 FLo (glo_ok X G (c.d.fact 37 (f := .glo "longer_lots") rfl)) GLo FAP (glo_ok X G (c.d.fact 32 (f := .glo "apart_pairs") rfl)) GAP
  have GLH := ok_lhues (P := P) (w := w) (base := base) FLH B (free_ok X G (c.d.fact 12 (f := .free "max") rfl)) (free_ok X G (c.d.fact 13 (f := .free "min") rfl))
  have GLL := ok_llot (P := P) (w := w) (base := base) FLL B (free_ok X G (c.d.fact 12 (f := .free "max") rfl)) (free_ok X G (c.d.fact 13 (f := .free "min") rfl))
  exact ok_law FLaw B (free_ok X G (c.d.fact 12 (f := .free "max") rfl)) FHa (glo_ok X G (c.d.fact 41 (f := .glo "_law_hand") rfl)) GHa FTa (glo_ok X G (c.d.fact 43 (f := .glo "_law_take") rfl)) GTa FCl (glo_ok X G (c.d.fact 47 (f := .glo "_law_classes") rfl)) GCl FWI (mkr_ok (c.d.fact 99 (f := .mkr "World") rfl)) (glo_ok X G (c.d.fact 97 (f := .glo "World") rfl)) GW TC FLI TLd (mkr_ok (c.d.fact 91 (f := .mkr "Ladders") rfl)) (glo_ok X G (c.d.fact 89 (f := .glo "Ladders") rfl)) GLd FKi (glo_ok X G (c.d.fact 51 (f := .glo "_law_kin") rfl)) GKi FEx (glo_ok X G (c.d.fact 50 (f := .glo "_law_exact") rfl)) (GEx 1) (GEx 2) FTo (glo_ok X G (c.d.fact 58 (f := .glo "_law_told_right") rfl)) GTo FPs (glo_ok X G (c.d.fact 52 (f := .glo "_law_pairs") rfl)) GPs FAP (glo_ok X G (c.d.fact 32 (f := .glo "apart_pairs") rfl)) GAP FLH (glo_ok X G (c.d.fact 56 (f := .glo "_law_first_hues") rfl)) GLH FFe (glo_ok X G (c.d.fact 33 (f := .glo "fewest_hues") rfl)) GFe FLL (glo_ok X G (c.d.fact 57 (f := .glo "_law_first_lot") rfl)) GLL FFl (glo_ok X G (c.d.fact 36 (f := .glo "floor_lot") rfl)) GFl FLC (glo_ok X G (c.d.fact 54 (f := .glo "_law_clash") rfl)) GLC TNL E3'.held.fld (exm_ok (c.d.fact 71 (f := .exm "NotLine" "NotLine" true) rfl))
end K16
open PySem PySem.W PySem.Calls PyProof.Rows
theorem PySem.Challenge.cw_headamid_k16_whole_fewest_hues_gone_thro_holds : PySem.Challenge.rw_headamid_k16_whole_fewest_hues_gone_thro.Holds := by
  w_on; o_law
  refine HandSHeadRun.head_any (r := OpenLaw.row PySem.Challenge.rw_headamid_k16_whole_fewest_hues_gone_thro) (q := view (OpenLaw.row PySem.Challenge.rw_headamid_k16_whole_fewest_hues_gone_thro).prog [63]) (H := K16.hk) (ob := K16.ob) (M := 40000) (loose := K16.loose) (d := HandSHeadRun.topDef (OpenLaw.row PySem.Challenge.rw_headamid_k16_whole_fewest_hues_gone_thro).prog 63) (kwd := []) K16.ob_eq
    (by kernel_rfl) (fun s => by kernel_rfl) K16.run (by kernel_rfl) (by kernel_rfl) (by kernel_rfl) (by rfl) (by first | assumption | decide +kernel) (by decide +kernel) ⟨rfl, rfl, rfl, rfl, rfl, by decide +kernel⟩ ?hw ?hc
  case hw => w_witness2
  case hc =>
    refine L2.walk_ofE (l := PySem.Challenge.rw_headamid_k16_whole_fewest_hues_gone_thro) (n := 63) (k := 17) (x := "_law_script") (CX := L2.CX0) rfl (by decide) (by kernel_rfl) ⟨rfl, by decide, by decide⟩ ?F (fun _ _ _ _ z => z)
    intro w mg fa h Y G hmg0
    obtain ⟨K, KX, c⟩ := Y
    have hmg : mg ("law" : PySem.Str) = some (.ref fa) := by
      have e : (HandSHeadRun.topDef (OpenLaw.row PySem.Challenge.rw_headamid_k16_whole_fewest_hues_gone_thro).prog 63).name = ("law" : PySem.Str) := by kernel_rfl
      rw [← e]
      exact hmg0
    obtain ⟨fd, hb, hF⟩ := K16.facts (P := (PySem.Challenge.rw_headamid_k16_whole_fewest_hues_gone_thro).prog) (w := w) KX G hmg c
    exact ⟨K, fd, K16.spLaw K, KX, hb, fun H a ns hl _ hS => ⟨a, ns, rfl, hS, hl, fun _ => rfl⟩, hF⟩
