import PyProof.Rows.All
import Wide.All
import OpenK.AllK
import Wide.FinOn
import HandS.ForMost
import HandS.SetFor
import HandS.IsInst
import HandS.More
import HandS.SortInts
import PyProof.TupleOfSeq
import KE.GoesEnum
import HandS.ForExc
import HandS.ExcInit
import HandS.Strs
import HandS.TupSets
import HandS.Codes
import HandS.Defaults
import HandS.NoneIn
import HandS.TupAny
import HandS.OwnEq
import HandS.ExcField
import HandS.Deep
import KE.KExcIs
import HandS.Head2
import HandS.HeadEnd
import HandS.HeadHook2
import PySem.Challenge.RW_headamid_k15_whole_one_look_for_classes
set_option Elab.async false
set_option linter.all false
set_option maxRecDepth 100000
set_option maxHeartbeats 4000000
namespace Kw
open PySem PySem.Spec PyProof.Rows L2

/-! ### as many different ones as there are -/
theorem len_le_of_sub : ∀ {ks ns : List Int}, ks.Nodup → (∀ k ∈ ks, k ∈ ns) → ks.length ≤ ns.length
  | [], _, _, _ => Nat.zero_le _
  | k :: r, ns, hn, hs => by
    have hk : k ∈ ns := hs k List.mem_cons_self
    obtain ⟨h1, h2⟩ := List.nodup_cons.mp hn
    have ih := len_le_of_sub (ks := r) (ns := ns.erase k) h2 fun y hy => by
      have ne : y ≠ k := fun e => h1 (by rw [← e]; exact hy)
      exact (List.mem_erase_of_ne ne).mpr (hs y (List.mem_cons_of_mem _ hy))
    rw [List.length_erase_of_mem hk] at ih
    have := List.length_pos_of_mem hk
    show r.length + 1 ≤ ns.length
    omega
theorem nodup_of_len : ∀ {ns ks : List Int}, ks.Nodup → (∀ k ∈ ks, k ∈ ns) → ns.length ≤ ks.length → ns.Nodup
  | [], _, _, _, _ => List.nodup_nil
  | n :: r, ks, hn, hs, hl => by
    by_cases hr : n ∈ r
    · have z := len_le_of_sub (ks := ks) (ns := r) hn fun k hk => by
        rcases List.mem_cons.mp (hs k hk) with e | e
        · rw [e]; exact hr
        · exact e
      have : r.length + 1 ≤ ks.length := hl
      omega
    · refine List.nodup_cons.mpr ⟨hr, nodup_of_len (ks := ks.erase n) (hn.erase n) (fun k hk => ?_) ?_⟩
      · have h1 := (hn.mem_erase_iff).mp hk
        rcases List.mem_cons.mp (hs k h1.2) with e | e
        · exact absurd e h1.1
        · exact e
      · have h2 : r.length + 1 ≤ ks.length := hl
        by_cases hm : n ∈ ks
        · rw [List.length_erase_of_mem hm]
          omega
        · rw [List.erase_of_not_mem hm]
          omega
theorem len_nodup {ks ns : List Int} (hn : ks.Nodup) (hs : ∀ k, k ∈ ks ↔ k ∈ ns) : ks.length = ns.length ↔ ns.Nodup :=
  ⟨fun e => nodup_of_len hn (fun k hk => (hs k).mp hk) (by omega), fun h => Nat.le_antisymm (len_le_of_sub hn fun k hk => (hs k).mp hk) (len_le_of_sub h fun k hk => (hs k).mpr hk)⟩
theorem firstMet_facts (ns : List Int) : ∀ i, i ≤ ns.length → (firstMet (fun i => ns.getD i 0) i).Nodup ∧ ∀ k, k ∈ firstMet (fun i => ns.getD i 0) i ↔ k ∈ ns.take i
  | 0, _ => ⟨List.nodup_nil, fun k => by simp [firstMet_zero]⟩
  | i + 1, hi => by
    obtain ⟨h1, h2⟩ := firstMet_facts ns i (Nat.le_of_succ_le hi)
    have hlt : i < ns.length := hi
    have e : ns.getD i 0 = ns[i] := by
      rw [List.getD_eq_getElem?_getD, List.getElem?_eq_getElem hlt] <;> rfl
    have tk : ns.take (i + 1) = ns.take i ++ [ns[i]] := by
      rw [List.take_add_one, List.getElem?_eq_getElem hlt] <;> rfl
    rw [firstMet_succ, tk]
    unfold step_dedup
    rw [e]
    by_cases hb : (firstMet (fun i => ns.getD i 0) i).any (· == ns[i]) = true
    · rw [if_pos hb]
      obtain ⟨y, hy, ey⟩ := List.any_eq_true.mp hb
      have ey2 : y = ns[i] := eq_of_beq ey
      refine ⟨h1, fun k => ⟨fun hk => List.mem_append_left _ ((h2 k).mp hk), fun hk => ?_⟩⟩
      rcases List.mem_append.mp hk with z | z
      · exact (h2 k).mpr z
      · rw [List.mem_singleton.mp z, ← ey2]
        exact hy
    · rw [if_neg hb]
      have hno : ns[i] ∉ firstMet (fun i => ns.getD i 0) i := fun z => hb (List.any_eq_true.mpr ⟨_, z, beq_iff_eq.mpr rfl⟩)
      refine ⟨List.nodup_append.mpr ⟨h1, by simp, fun a ha b hb' e' => hno ?_⟩, fun k => ?_⟩
      · rw [List.mem_singleton.mp hb'] at e'
        exact e' ▸ ha
      · rw [List.mem_append, List.mem_append, h2 k]
/-! ### len(set(xs)), xs a list or a tuple of ints, whatever they are -/
def tLenSetA (K : PySem.W.Frag) (ta : TE) : TE := fun σ H Q => ta σ H fun x H1 => ∃ (l : Addr) (ns : List Int), x = .ref l ∧ (SqL K H1 l (ns.map V.int) ∨ SqT K H1 l (ns.map V.int)) ∧ ns.length ≤ 4000 ∧ ∀ n : Nat, (n = ns.length ↔ ns.Nodup) → Q (.int n) H1
theorem intsAre_of : ∀ {ns : List Int} {us : List Value}, Vals (ns.map V.int) us → IntsAre us ns
  | [], _, .nil => .nil
  | n :: r, _, .cons h t => by
    obtain ⟨k, e⟩ := h
    rw [e]
    exact .cons n k (intsAre_of t)
theorem pe_lenSetA {X : Cx} {a : Expr} {ta : TE} {p p2 q pos : Pos} (hg : Gl X "len") (hm : X.mg "len" = none) (hg2 : Gl X "set") (hm2 : X.mg "set" = none) (ha : PE X a ta) (hc : X.calm = true := by rfl)
    (na : starEach [a] X.env = (false, eval a X.env) :: starEach [] X.env := by rfl) : PE X (.Call (.Name "len" p) [.Call (.Name "set" p2) [a] [] q] [] pos) (tLenSetA X.K ta) := by
  refine ⟨fun pins s σ H Q I h => Call_ (ld_blt I hg hm PySem.boot_len ?_)⟩
  refine callWith_builtin1 (args_cons (Call_ (ld_blt I hg2 hm2 PyProof.Rows.boot_set ?_)) rfl) rfl rfl
  refine callWith_type1 (args_cons (thn (ha.run pins s σ H _ I h) fun v s1 ⟨x, H1, I1, r1, q1⟩ => args_nil ?_) na) na rfl
  obtain ⟨l, ns, ex, hq, h4, q2⟩ := q1
  subst ex
  obtain rfl : v = Value.ref l := r1
  rcases hq with hq | hq
  · obtain ⟨its, r, pl, hz⟩ := I1.list hq
    have hlen : its.toArray.size = ns.length := by rw [List.size_toArray, ← r.length, List.length_map]
    have ia : IntsAre its.toArray.toList ns := by
      have z := intsAre_of r
      simpa using z
    refine call_set_list (I1.ok.hd hc) pl.isList ia (by rw [hlen]; unfold scanBound; omega) fun h' tk hS hk => args_nil ?_
    rw [hlen] at hS
    obtain ⟨f1, f2⟩ := firstMet_facts ns ns.length (Nat.le_refl _)
    rw [List.take_length] at f2
    have key := len_nodup f1 f2
    have le := firstMet_length_le (fun i => ns.getD i 0) ns.length
    generalize hm : (firstMet (fun i => ns.getD i 0) ns.length).length = m at hS key le
    obtain ⟨o, es, ep, t, ho, hex, hd, _, _, _, hf, hn⟩ := hS
    have I2 : Inv X pins σ H1 { s1 with heap := h', toks := tk } := I1.kept fun b o e => hk b o (Heap.lt_size e) e
    exact call_len_set ho hex hd hf (by rw [hn]; omega) ⟨.int m, H1, I2.tok _, ⟨_, by rw [hn]⟩, q2 m key⟩
  · obtain ⟨its, r, pl, hz⟩ := I1.tuple hq
    have ia : IntsAre its.toArray.toList ns := by
      have z := intsAre_of r
      simpa using z
    refine call_set_tupI ns (I1.ok.hd hc) pl ia (by unfold scanBound; omega) fun h' tk c hS hc' hk => args_nil ?_
    obtain ⟨o, es, ep, t, ho, hex, hd, hg3, hnd, hmem, hbd, hf, hn, _, _⟩ := hS
    have key := len_nodup hnd (ns := ns) fun k => (hmem k).symm.trans (by simp)
    have e1 : (es.toList.map keyOf).length = es.size := by rw [List.length_map, Array.length_toList]
    rw [e1] at key
    have I2 : Inv X pins σ H1 { s1 with heap := h', toks := tk } := I1.kept fun b o e => hk b o e
    exact call_len_set ho hex hd hf (by unfold scanBound at hbd; omega) ⟨.int es.size, H1, I2.tok _, ⟨_, rfl⟩, q2 es.size key⟩
end Kw

set_option maxRecDepth 100000
set_option maxHeartbeats 4000000
namespace Kw
open PySem PySem.Spec PyProof.Rows L2
theorem ints_at : ∀ {us : List Value} {ks : List Int}, us.length = ks.length → (∀ (j : Nat) (v : Value), us[j]? = some v → ∃ (x : Int) (t : Tok), ks[j]? = some x ∧ v = Value.int x t) → IntsAre us ks
  | [], [], _, _ => .nil
  | u :: us, k :: ks, hl, h => by
    obtain ⟨x, t, e1, e2⟩ := h 0 u rfl
    obtain rfl : k = x := Option.some.inj e1
    rw [e2]
    exact .cons _ _ (ints_at (Nat.succ.inj hl) fun j v e => h (j + 1) v e)
  | [], _ :: _, hl, _ => by cases hl
  | _ :: _, [], hl, _ => by cases hl
/-- sorted(d), d a dict whose keys are ints -/
def rSortDI : List V → Hp → VK → Prop := fun xs H Q => ∃ (a : Addr) (kvs : List (Key × V)) (ks : List Int), xs = [.ref a] ∧ Rd H a (.dK kvs) ∧ kvs.map (·.1) = ks.map Sum.inl ∧ ks.length ≤ 4000 ∧
  ∀ (ys : List Int) (p : Addr), ys.Perm ks → ys.Pairwise (· ≤ ·) → H p = none → Q (.ref p) (upd H p (.lst (ys.map V.int)))
theorem call_sortedDI {X : Cx} (hcalm : X.calm = true) : CallR X (.builtin "sorted") rSortDI := by
  intro pins s σ H xs us Q I r q
  obtain ⟨a, kvs, ks, ex, hd, hks, h64, q⟩ := q
  subst ex
  obtain ⟨u, eu, rx⟩ := vals1 r
  subst eu
  obtain rfl : u = Value.ref a := rx
  obtain ⟨z, lo, vs, rel, dd⟩ := dk_rd I.hok hd
  obtain ⟨ep, hat⟩ := dd.dictAt
  have hkeys : vs.map (·.1) = ks.map Sum.inl := rel.keys.symm.trans hks
  have hl : vs.length = ks.length := by simpa using congrArg List.length hkeys
  have h16 : vs.length ≤ sizeLine := by rw [hl]; exact Nat.le_trans h64 (by decide)
  refine Calls.call_function_entry kind_sorted plain_sorted entry_sorted (args_sorted1 _) ?_
  unfold Builtin.«sorted»
  refine wpAny_bind (m := checkCount "sorted" 1 1 _) (wpAny_pure (wpAny_bind ?_))
  refine PySem.W.kdu_collect (A := X.A.in1) (PySem.W.kdl_dict (knd := mixKind X.prog X.w) (kvs := vs) (ep := ep) lo) (I.ok.hd hcalm) hat h16 fun h' tk acc hk hacc => ?_
  have hal : acc.toList.length = ks.length := by rw [Array.length_toList, hacc.1, hl]
  have hI : IntsAre acc.toList ks := ints_at hal fun j v e => by
    obtain ⟨k, x, e1, e2⟩ := hacc.2 j v (by rw [← Array.getElem?_toList]; exact e)
    have e3 : (vs.map (·.1))[j]? = some k := by rw [List.getElem?_map, e1] <;> rfl
    rw [hkeys, List.getElem?_map] at e3
    obtain ⟨y, e4, e5⟩ := Option.map_eq_some_iff.mp e3
    subst e5
    obtain ⟨t, ev⟩ := Value.isInt_shape (k := y) (v := v) e2
    exact ⟨y, t, e4, ev⟩
  have I1 : Inv X pins σ H { s with heap := h', toks := tk } := I.kept hk
  have hZ : acc.toList.length ≤ sizeLine := by rw [hal]; exact Nat.le_trans h64 (by decide)
  refine wpAny_bind (wpAny_newList ?_ hZ)
  have hoL : (h'.push (seqObj "list" acc.toList.toArray 0)).get? h'.objs.size = some (seqObj "list" acc.toList.toArray 0) := Heap.get?_push_size _ rfl
  show wpAny _ _ _ _ _ { s with heap := h'.push (seqObj "list" acc.toList.toArray 0), toks := tk }
  refine wpAny_bind (wpAny_holding (wpAny_call_entry slot_list_sort ⟨_, hoL, rfl⟩ entry_list_sort ?_ (args_list_sort _)))
  refine SrtO.list_sort_ord SrtO.swo_int hoL hZ (fun h2 => SrtO.ints_sortable hI h2) fun out g1 g2 => ⟨_, rfl, ?_⟩
  obtain ⟨k1, k2, k3⟩ := SrtO.ints_out hI g1 g2
  obtain ⟨e', he'⟩ := sortedHeap_at (vs := acc.toList) (out := out.toArray) hoL
  have hlen : ((out.map SrtO.iv).map V.int).length ≤ sizeLine := by
    rw [List.length_map, k2.length_eq]
    exact Nat.le_trans h64 (by decide)
  refine wpAny_pure ⟨_, rfl, .ref h'.objs.size, upd H h'.objs.size (.lst ((out.map SrtO.iv).map V.int)), I1.laid (t' := tk) (fun b u e => ?_) (Nat.le_refl _)
    (show ObjOk X.prog X.w _ _ _ (.lst ((out.map SrtO.iv).map V.int)) from ⟨hlen, out, e', vals_of_ints k1, he'⟩), rfl, q _ _ k2 k3 (I1.hok.fresh (Nat.le_refl _))⟩
  have hb : b < h'.objs.size := Heap.lt_size e
  rw [sortedHeap_old (Nat.ne_of_lt hb) (by rw [size_push']; exact Nat.lt_succ_of_lt hb)]
  exact Heap.get?_push_of_some _ e
end Kw

set_option maxRecDepth 100000
set_option maxHeartbeats 4000000
namespace Kw
open PySem PySem.Spec PyProof.Rows L2
/-- one rule or another, for a place where either kind of thing may stand -/
theorem pg_or {X : Cx} {tg : Expr} {t1 t2 : TG} (h1 : PG X tg t1) (h2 : PG X tg t2) : PG X tg (fun v σ H Q => t1 v σ H Q ∨ t2 v σ H Q) :=
  ⟨fun pins s σ H v u Q I r h => h.elim (h1.run pins s σ H v u Q I r) (h2.run pins s σ H v u Q I r)⟩
theorem pi_or {X : Cx} {tg e : Expr} {w1 w2 : TI} (h1 : PI X tg e w1) (h2 : PI X tg e w2) : PI X tg e (fun σ H R => w1 σ H R ∨ w2 σ H R) :=
  ⟨fun pins s σ H R I h => h.elim (h1.run pins s σ H R I) (h2.run pins s σ H R I)⟩
theorem call_or {X : Cx} {f : Value} {r1 r2 : List V → Hp → VK → Prop} (h1 : CallR X f r1) (h2 : CallR X f r2) : CallR X f (fun vs H Q => r1 vs H Q ∨ r2 vs H Q) :=
  fun pins s σ H xs us Q I r h => h.elim (h1 pins s σ H xs us Q I r) (h2 pins s σ H xs us Q I r)
theorem pe_or {X : Cx} {e : Expr} {t1 t2 : TE} (h1 : PE X e t1) (h2 : PE X e t2) : PE X e (fun σ H Q => t1 σ H Q ∨ t2 σ H Q) :=
  ⟨fun pins s σ H Q I h => h.elim (h1.run pins s σ H Q I) (h2.run pins s σ H Q I)⟩
/-- sorted(t), t a list or a tuple of whole numbers -/
def rSortSI (K : PySem.W.Frag) : List V → Hp → VK → Prop := fun xs H Q => ∃ (a : Addr) (ks : List Int), xs = [.ref a] ∧ (SqL K H a (ks.map V.int) ∨ SqT K H a (ks.map V.int)) ∧
  ∀ (ys : List Int) (p : Addr), ys.Perm ks → ys.Pairwise (· ≤ ·) → H p = none → Q (.ref p) (upd H p (.lst (ys.map V.int)))
theorem call_sortedSI {X : Cx} : CallR X (.builtin "sorted") (rSortSI X.K) := by
  intro pins s σ H xs us Q I r q
  obtain ⟨a, ks, ex, hd, q⟩ := q
  subst ex
  rcases hd with hd | hd
  · exact cr_sortedI pins s σ H _ us Q I r ⟨a, ks, rfl, hd, q⟩
  · obtain ⟨u, eu, rx⟩ := vals1 r
    subst eu
    obtain rfl : u = Value.ref a := rx
    obtain ⟨its, rv, p, hz⟩ := I.tuple hd
    have hI : IntsAre its ks := rv.ints
    obtain ⟨o, ho, hc, n, hdt⟩ : s.heap.IsTuple a its.toArray := p
    have hzi : its.toArray.size ≤ sizeLine := by
      rw [List.size_toArray, ← rv.length]
      exact hz
    refine Calls.call_function_entry kind_sorted plain_sorted entry_sorted (args_sorted1 _) ?_
    unfold Builtin.«sorted»
    refine wpAny_bind (m := checkCount "sorted" 1 1 _) (wpAny_pure (wpAny_bind ?_))
    refine wpAny_collect_seq a (T := "tuple") (.inr rfl) ho hc hdt (hsz := hzi) fun h' hk => ?_
    have ea : its.toArray.toList = its := rfl
    rw [ea]
    have I1 : Inv X pins σ H { s with heap := h' } := I.kept (t' := s.toks) hk
    have hZ : its.length ≤ sizeLine := by
      rw [← rv.length]
      exact hz
    refine wpAny_bind (wpAny_newList ?_ hZ)
    have hoL : (h'.push (seqObj "list" its.toArray 0)).get? h'.objs.size = some (seqObj "list" its.toArray 0) := Heap.get?_push_size _ rfl
    show wpAny _ _ _ _ _ { s with heap := h'.push (seqObj "list" its.toArray 0) }
    refine wpAny_bind (wpAny_holding (wpAny_call_entry slot_list_sort ⟨_, hoL, rfl⟩ entry_list_sort ?_ (args_list_sort _)))
    refine SrtO.list_sort_ord SrtO.swo_int hoL hZ (fun h2 => SrtO.ints_sortable hI h2) fun out g1 g2 => ⟨_, rfl, ?_⟩
    obtain ⟨k1, k2, k3⟩ := SrtO.ints_out hI g1 g2
    obtain ⟨e', he'⟩ := sortedHeap_at (vs := its) (out := out.toArray) hoL
    have hlen : ((out.map SrtO.iv).map V.int).length ≤ sizeLine := by
      rw [List.length_map, k2.length_eq, ← List.length_map (f := V.int)]
      exact hz
    refine wpAny_pure ⟨_, rfl, .ref h'.objs.size, upd H h'.objs.size (.lst ((out.map SrtO.iv).map V.int)), I1.laid (t' := s.toks) (fun b u e => ?_) (Nat.le_refl _)
      (show ObjOk X.prog X.w _ _ _ (.lst ((out.map SrtO.iv).map V.int)) from ⟨hlen, out, e', vals_of_ints k1, he'⟩), rfl, q _ _ k2 k3 (I1.hok.fresh (Nat.le_refl _))⟩
    have hb : b < h'.objs.size := Heap.lt_size e
    rw [sortedHeap_old (Nat.ne_of_lt hb) (by rw [size_push']; exact Nat.lt_succ_of_lt hb)]
    exact Heap.get?_push_of_some _ e
end Kw

set_option maxRecDepth 100000
set_option maxHeartbeats 4000000
namespace PySem
open Sem (wp)
open AutoSeq1 (wpAny_loadPart')
theorem meets_enumerate_newV {v : Value} {o : Obj} {H : Heap → Prop} (B : Begins v o H) :
    Meets (Builtin.«enumerate.__new__» ⟨[.type "enumerate", v], []⟩) (fun _ R s => H s.heap ∧
      R (.ok (.ret (.ref (s.heap.push o).objs.size))) { s with heap := (s.heap.push o).push { cls := .type "enumerate", data := .fields #[.none, .bool false, .ref s.heap.objs.size, rawInt 0, .none, .none] } }) :=
  .of_wp fun prog w A R s h => by
    obtain ⟨hp, g, d, tk, os⟩ := s; obtain ⟨h1, h⟩ := h
    have hsub := sub_enumerate
    have q1 : ∀ {A' : Around} {E : Value → Shared → Prop} {Q : Value → Shared → Prop}, Q (.ref hp.objs.size) ⟨hp.push o, g, d, tk, os⟩ → wpAny (model prog w) A' (pyIter v) Q E ⟨hp, g, d, tk, os⟩ :=
      fun q => B.iter prog w _ _ ⟨hp, g, d, tk, os⟩ _ h1 q
    wp_walk using q1
    refine wpAny_stack_any fun st => wpAny_pure ?_
    split
    · rename_i c _ _ _ _ _
      cases (c == Value.type "enumerate")
      · wp_walk using q1
        exact ⟨_, rfl, h⟩
      · wp_walk using q1
        exact ⟨_, rfl, h⟩
    · wp_walk using q1
      exact ⟨_, rfl, h⟩
section
variable {prog : Program} {w : World} {A : Around} {E : Value → Shared → Prop} {s : Shared}
theorem call_enumerate_tuple {l : Addr} {items : Array Value} {Q : Value → Shared → Prop} (hL : s.heap.IsTuple l items)
    (h : ∀ h', IsEnum h' (s.heap.objs.size + 1) s.heap.objs.size 0 .none → h'.IsTupleIter s.heap.objs.size l 0 → h'.objs.size = s.heap.objs.size + 2 →
      (∀ b o, s.heap.get? b = some o → h'.get? b = some o) → Q (.ref (s.heap.objs.size + 1)) { s with heap := h' }) :
    wpAny (model prog w) A (call (.type "enumerate") [.ref l]) Q E s := by
  refine callType_new F.called_enumerate (by decide) (F.typeCall_enumerate_1 _) (F.newCall_enumerate_1 _) (fun obj => F.args_object_init_2 obj _) F.entry_enumerate_new
    (meets_enumerate_newV (begins_tuple l items)) ⟨hL, ?_⟩
  have hz : (s.heap.push { cls := .type "tuple_iterator", data := .fields #[.ref l, .int 0 0] }).objs.size = s.heap.objs.size + 1 := Heap.size_push ..
  show _ ∧ _
  rw [hz]
  have he : IsEnum ((s.heap.push { cls := .type "tuple_iterator", data := .fields #[.ref l, .int 0 0] }).push
      { cls := .type "enumerate", data := .fields #[.none, .bool false, .ref s.heap.objs.size, rawInt 0, .none, .none] }) (s.heap.objs.size + 1) s.heap.objs.size 0 .none := by
    have := Heap.get?_push_size (s.heap.push { cls := .type "tuple_iterator", data := .fields #[.ref l, .int 0 0] })
      (o := { cls := .type "enumerate", data := .fields #[.none, .bool false, .ref s.heap.objs.size, rawInt 0, .none, .none] }) rfl
    rw [hz] at this; exact this
  refine ⟨⟨_, he, rfl⟩, h _ he ⟨_, Heap.get?_push_of_some _ (Heap.get?_push_size _ rfl), rfl, rfl⟩ (by rw [Heap.size_push, hz]) fun b o x => Heap.get?_push_of_some _ (Heap.get?_push_of_some _ x)⟩
end
end PySem
namespace L2
open PySem PySem.Spec PyProof.Rows
/-- the tuple at a, each item in a new pair -/
def Itet (K : PySem.W.Frag) (a : Addr) : It :=
  ⟨fun i H => ∃ (xs : List V) (x : V), SqT K H a xs ∧ xs[i]? = some x, fun i H v H' => ∃ T x, v = .ref T ∧ H T = none ∧ H' = upd H T (.tup [.int (i : Nat), x]) ∧ ∀ xs, SqT K H a xs → xs[i]? = some x, fun i H => ∃ xs : List V, SqT K H a xs ∧ xs.length = i⟩
theorem turn_enumT {P : Program} {w : World} {K : PySem.W.Frag} {elts : List Expr} {kk : Nat} {tpos : Pos} (a e it : Addr) :
    Turn P w K (.Tuple elts kk tpos) (Itet K a) [e, it] e (fun i h => (∃ old, IsEnum h e it ((i : Nat) : Int) old) ∧ h.IsTupleIter it a i ∧ e ≠ it) where
  mem := by simp
  obj := fun i h st b hb => by
    obtain ⟨⟨old, he⟩, ⟨o, ho, hc, hd⟩, _⟩ := st
    have e' : b = e ∨ b = it := by simpa using hb
    rcases e' with z | z
    · rw [z]; exact ⟨_, he, fun v q => nomatch q⟩
    · rw [z]; exact ⟨o, ho, fun v q => by rw [hd] at q; cases q⟩
  keep := fun i h h' st k => let ⟨⟨old, he⟩, hi, hne⟩ := st; ⟨⟨old, k e (by simp) _ he⟩, hi.at fun o q => k it (by simp) o q, hne⟩
  item := by
    intro X hP hw hK hc i pins s σ H E I hf st hg
    subst hP hw hK
    obtain ⟨⟨old, he⟩, hit, hne⟩ := st
    obtain ⟨xs, x, hq, hx⟩ := hg
    obtain ⟨its, rv, p, hz⟩ := I.tuple hq
    obtain ⟨u, hu, ru⟩ := rv.get hx
    have hT0 : s.heap.IsTuple a its.toArray := p
    have hel : e < s.heap.objs.size := Heap.lt_size he
    have hil : it < s.heap.objs.size := by obtain ⟨_, q, _⟩ := hit; exact Heap.lt_size q
    have hea : e ≠ a := fun z => by
      obtain ⟨o, q1, q2, _⟩ := hT0
      rw [← z, he] at q1
      have q3 := Option.some.inj q1
      subst q3
      exact absurd (Value.type.inj q2) (by decide)
    have hai : a ≠ it := fun z => by
      obtain ⟨o, q1, q2, _⟩ := hT0
      obtain ⟨o', r1, r2, _⟩ := hit
      rw [z, r1] at q1
      have q3 := Option.some.inj q1
      subst q3
      rw [q2] at r2
      exact absurd (Value.type.inj r2) (by decide)
    have hii : i < its.toArray.size := by
      rw [List.size_toArray]
      exact (List.getElem?_eq_some_iff.mp hu).1
    refine wpAny_pyNext_enum_itemD (Draws.tuple (show X.A.in1.handled = none from I.ok.hd hc) it a hai its.toArray) he ⟨hit, hT0⟩ hii hne (by simp [hne, hea]) fun v h' tk hv ho hit' hT hsz hk => ?_
    obtain rfl : u = v := by
      have z : its.toArray[i]? = some u := by simpa using hu
      exact Option.some.inj (z.symm.trans hv)
    refine ⟨_, rfl, wpAny_letOwnedTupleGo_enum (s := { s with heap := h', toks := tk + 1 }) ho fun h'' he' sb => ?_⟩
    have hT2 : h''.get? s.heap.objs.size = some { cls := .type "tuple", data := .seq #[.int i tk, u] } := (sb.2 _ (Nat.ne_of_gt hel)).trans hT
    have new : ObjOk X.prog X.w (upd H s.heap.objs.size (.tup [.int (i : Nat), x])) h'' s.heap.objs.size (.tup [.int (i : Nat), x]) :=
      ⟨by show 2 ≤ sizeLine; decide, [.int i tk, u], .cons ⟨_, rfl⟩ (.cons ru .nil), ⟨_, hT2, rfl, _, rfl⟩⟩
    have I1 : Inv X pins σ (upd H s.heap.objs.size (.tup [.int (i : Nat), x])) { s with heap := h'', toks := tk + 1 } :=
      I.turnedNew (ch := [e, it]) (fun b ob hb q => (sb.2 b (fun z => hb (by simp [z]))).trans (hk b ob (fun z => hb (by simp [z])) (fun z => hb (by simp [z])) q)) hf (Nat.le_refl _) new
    refine ⟨.ref s.heap.objs.size, _, I1, rfl, ⟨_, x, rfl, I.hok.fresh (Nat.le_refl _), rfl, fun ys hy => by rw [I.tuple_inj hy hq]; exact hx⟩, ⟨⟨u, ?_⟩, hit'.1.at fun o q => (sb.2 it (Ne.symm hne)).trans q, hne⟩, fun b hb => ?_⟩
    · have e1 : ((i + 1 : Nat) : Int) = (i : Int) + 1 := by omega
      rw [e1]; exact he'
    · have hb' : b < s.heap.objs.size := by
        have e' : b = e ∨ b = it := by simpa using hb
        rcases e' with z | z
        · rw [z]; exact hel
        · rw [z]; exact hil
      rw [upd_ne (Nat.ne_of_lt hb')]
      exact (hf b hb).1
  done := by
    intro X hP hw hK hc i pins s σ H E I hf st hg
    subst hP hw hK
    obtain ⟨⟨old, he⟩, hit, hne⟩ := st
    obtain ⟨xs, hq, hx⟩ := hg
    obtain ⟨its, rv, p, hz⟩ := I.tuple hq
    have hT0 : s.heap.IsTuple a its.toArray := p
    obtain ⟨f0, f1, f2, f3, f4, f5⟩ := hf it (by simp)
    have hl := rv.length
    have hai : a ≠ it := fun z => by
      obtain ⟨o, q1, q2, _⟩ := hT0
      obtain ⟨o', r1, r2, _⟩ := hit
      rw [z, r1] at q1
      have q3 := Option.some.inj q1
      subst q3
      rw [q2] at r2
      exact absurd (Value.type.inj r2) (by decide)
    have hn : its.toArray.size = i := by
      rw [List.size_toArray]
      omega
    refine wpAny_pyNext_enum_endD (n := i) (it := it) (fp := [it, a]) (P := fun i v => its.toArray[i]? = some v) (St := fun i h => h.IsTupleIter it a i ∧ h.IsTuple a its.toArray) ?_ he ⟨hit, hT0⟩ fun h' eb => ⟨rfl, I.turned (t' := s.toks) (fun b o hb q => eb b o hb q) f0 f1 f3 f4 f5⟩
    have D := Draws.tuple (prog := X.prog) (w := X.w) (show X.A.in1.handled = none from I.ok.hd hc) it a hai its.toArray
    rw [hn] at D
    exact D
  self := fun A i s Q E st h => let ⟨⟨_, he⟩, _⟩ := st; wpAny_pyIter_enum he h
def iEnumT (K : PySem.W.Frag) (ta : TA) : TI := fun σ H R => ta σ H fun vs H1 => ∃ a xs, vs = [.ref a] ∧ SqT K H1 a xs ∧ R (Itet K a) H1
theorem pi_enumT {X : Cx} {e : Expr} {ta : TA} {p pos tpos : Pos} {elts : List Expr} {kk : Nat} (hg : Gl X "enumerate") (hm : X.mg "enumerate" = none) (ha : PA X [e] ta) (hs : starEach [e] X.env = [(false, eval e X.env)] := by rfl) :
    PI X (.Tuple elts kk tpos) (.Call (.Name "enumerate" p) [e] [] pos) (iEnumT X.K ta) := by
  refine ⟨fun pins s σ H R I h => ?_⟩
  refine Call_ (ld_blt I hg hm boot_enumerate (PyProof.Rows.callWith_type1 (thn (ha.run pos pins s σ H _ I h) fun us s1 ⟨vs, H1, I1, r1, q1⟩ => ?_) hs rfl))
  obtain ⟨a, xs, ex, hq, q⟩ := q1
  subst ex
  cases r1 with
  | cons r rr =>
    cases rr
    cases r
    obtain ⟨its, rv, p', hz⟩ := I1.tuple hq
    refine call_enumerate_tuple (show s1.heap.IsTuple a its.toArray from p') fun h' he hit hsz hk => wpAny_pyIter_enum he ?_
    have I2 : Inv X pins σ H1 { s1 with heap := h' } := I1.kept (t' := s1.toks) hk
    refine ⟨s1.heap.objs.size + 1, [s1.heap.objs.size + 1, s1.heap.objs.size], _, _, H1, rfl, I2, turn_enumT a (s1.heap.objs.size + 1) s1.heap.objs.size, ⟨⟨.none, he⟩, hit, Nat.succ_ne_self _⟩, fun b hb => ?_, q⟩
    have e' : b = s1.heap.objs.size + 1 ∨ b = s1.heap.objs.size := by simpa using hb
    have hle : s1.heap.objs.size ≤ b := by
      rcases e' with z | z
      · rw [z]; exact Nat.le_add_right _ _
      · rw [z]; exact Nat.le_refl _
    exact I1.fpOk hle (I1.hok.fresh hle)
/-- the turns over a tuple that stands -/
theorem for_enumT {K : PySem.W.Frag} {a : Addr} {xs : List V} {g : TG} {tb : TS} {D : Ends} {σ : St} {H : Hp} (Pv : Nat → St → Hp → Prop) (h0 : Pv 0 σ H) (hl : ∀ i σ H, i ≤ xs.length → Pv i σ H → SqT K H a xs)
    (hs : ∀ i x σ H T, xs[i]? = some x → Pv i σ H → H T = none → g (.ref T) σ (upd H T (.tup [.int (i : Nat), x])) fun σ2 H2 => tb { D with nx := Pv (i + 1), ct := Pv (i + 1), bk := D.nx } σ2 H2) (hd : ∀ σ H, Pv xs.length σ H → D.nx σ H) :
    ∃ W : Nat → Nat → St → Hp → Prop, (∃ m, W 0 m σ H) ∧ ∀ i m σ H, W i m σ H →
      ((Itet K a).stop i H ∧ D.nx σ H) ∨ ((Itet K a).go i H ∧ ∃ N : St → Hp → Prop, (∀ σ' H', N σ' H' → ∃ m', m' < m ∧ W (i + 1) m' σ' H') ∧ ∀ x H', (Itet K a).yld i H x H' → g x σ H' fun σ2 H2 => tb { D with nx := N, ct := N, bk := D.nx } σ2 H2) := by
  refine ⟨fun i m σ H => m = xs.length - i ∧ i ≤ xs.length ∧ Pv i σ H, ⟨xs.length, by simp, Nat.zero_le _, h0⟩, ?_⟩
  rintro i m σ H ⟨rfl, hi, p⟩
  have q := hl i σ H hi p
  by_cases hlt : i < xs.length
  · refine .inr ⟨⟨xs, xs[i], q, by simp [hlt]⟩, Pv (i + 1), fun σ' H' p' => ⟨xs.length - (i + 1), by omega, rfl, hlt, p'⟩, fun x H' y => ?_⟩
    obtain ⟨T, z, e1, e2, e3, e4⟩ := y
    subst e1 e3
    exact hs i z σ H T (e4 xs q) p e2
  · have e : i = xs.length := by omega
    subst e
    exact .inl ⟨⟨xs, q, rfl⟩, hd σ H p⟩
theorem for_enumL {K : PySem.W.Frag} {a : Addr} {xs : List V} {g : TG} {tb : TS} {D : Ends} {σ : St} {H : Hp} (Pv : Nat → St → Hp → Prop) (h0 : Pv 0 σ H) (hl : ∀ i σ H, i ≤ xs.length → Pv i σ H → SqL K H a xs)
    (hs : ∀ i x σ H T, xs[i]? = some x → Pv i σ H → H T = none → g (.ref T) σ (upd H T (.tup [.int (i : Nat), x])) fun σ2 H2 => tb { D with nx := Pv (i + 1), ct := Pv (i + 1), bk := D.nx } σ2 H2) (hd : ∀ σ H, Pv xs.length σ H → D.nx σ H) :
    ∃ W : Nat → Nat → St → Hp → Prop, (∃ m, W 0 m σ H) ∧ ∀ i m σ H, W i m σ H →
      ((Ite K a).stop i H ∧ D.nx σ H) ∨ ((Ite K a).go i H ∧ ∃ N : St → Hp → Prop, (∀ σ' H', N σ' H' → ∃ m', m' < m ∧ W (i + 1) m' σ' H') ∧ ∀ x H', (Ite K a).yld i H x H' → g x σ H' fun σ2 H2 => tb { D with nx := N, ct := N, bk := D.nx } σ2 H2) := by
  refine ⟨fun i m σ H => m = xs.length - i ∧ i ≤ xs.length ∧ Pv i σ H, ⟨xs.length, by simp, Nat.zero_le _, h0⟩, ?_⟩
  rintro i m σ H ⟨rfl, hi, p⟩
  have q := hl i σ H hi p
  by_cases hlt : i < xs.length
  · refine .inr ⟨⟨xs, xs[i], q, by simp [hlt]⟩, Pv (i + 1), fun σ' H' p' => ⟨xs.length - (i + 1), by omega, rfl, hlt, p'⟩, fun x H' y => ?_⟩
    obtain ⟨T, z, e1, e2, e3, e4⟩ := y
    subst e1 e3
    exact hs i z σ H T (e4 xs q) p e2
  · have e : i = xs.length := by omega
    subst e
    exact .inl ⟨⟨xs, q, Nat.le_refl _⟩, hd σ H p⟩
end L2

set_option maxRecDepth 100000
set_option maxHeartbeats 4000000
namespace Kw
open PySem PySem.Spec PyProof.Rows L2
/-- the fields that such an __init__ leaves, the last first -/
def errF (ps : List Str) (vs : List V) : List (Str × V) := (ps.zip vs).reverse
/-- an error's __init__ that keeps all its parameters, one or more, in their order -/
def spR (C : Addr) (ps : List Str) : Sp := fun vs H Q _ => ∃ (a : Addr) (xs : List V), vs = .ref a :: xs ∧ xs.length = ps.length ∧ H a = some (exo a C none) ∧
  ∀ d H', H d = none → d ≠ a → H' a = some (exo a C (some d)) → H' d = some (exd d (errF ps xs)) → (∀ b o, b ≠ a → H b = some o → H' b = some o) → Q .non H'
/-- what a raise of it asks, once its arguments are read -/
theorem raise_q {C : Addr} {ps : List Str} {H1 : Hp} {vs : List V} {Q : XK} (hl : vs.length = ps.length) (hz : ps.length ≤ 1000) (q : ∀ d H', Same H1 H' → H1 d = none → H' d = some (.xd (errF ps vs)) → Q (.ref C) (some d) H') :
    vs.length ≤ 1000 ∧ ∀ a, H1 a = none → spR C ps (.ref a :: (vs ++ [])) (upd H1 a (exo a C none))
      (fun v H2 => v = .non ∧ ∃ (d : Addr) (fs : List (Str × V)), H2 a = some (exo a C (some d)) ∧ H2 d = some (exd d fs) ∧ H1 d = none ∧ Q (.ref C) (some d) (upd (del H2 a) d (.xd fs))) (fun _ _ _ => False) := by
  refine ⟨by omega, fun a ha => ⟨a, vs, by rw [List.append_nil], hl, upd_same, fun d H' hd hda e1 e2 s => ?_⟩⟩
  rw [upd_ne hda] at hd
  refine ⟨rfl, d, _, e1, e2, hd, q d _ (fun b o e => ?_) hd upd_same⟩
  have hba : b ≠ a := ne_of_none e ha
  rw [upd_ne (ne_of_none e hd), del_ne hba]
  exact s b o hba (by rw [upd_ne hba]; exact e)
/-- the facts of an own error class -/
structure ErrX (K : PySem.W.Frag) (mg : Str → Option Value) (x : Str) (ps : List Str) (C fI : Addr) : Prop where
  oex : OexC K C
  ini : PySem.W.findIn K (.ref C) "__init__" = some (some (.ref fI))
  inT : PySem.W.typeIn K (.ref fI) = some (.type "function")
  no : ∀ p ∈ ps, PySem.W.findIn K (.ref C) p = some none
  mg : mg x = some (.ref C)
theorem upB {H : Hp} {a b : Addr} {o u : HO} (h : b ≠ a) (e : H b = some o) : upd H a u b = some o := by rw [upd_ne h]; exact e
end Kw

set_option maxRecDepth 100000
set_option maxHeartbeats 4000000
namespace Kw
open PySem PySem.Spec PyProof.Rows L2
/-- an empty set, as it is laid -/
abbrev mtS (w : World) : Obj := { cls := .type "set", dict := none, data := .set #[] 0 (.fresh 0 0 (!w.params.followText "set-order")) }
section
variable {P : Program} {w : World} {A : Around} {E : Value → Shared → Prop}
set_option maxHeartbeats 8000000 in
/-- set(l), l a list of whole numbers, doubles among them -/
theorem set_of_list {s : Shared} {l : Addr} {items : Array Value} (ns : List Int) {Q : Value → Shared → Prop} (hh : A.handled = none) (hl : s.heap.IsList l items) (hit : IntsAre items.toList ns) (room : ns.length + 1 < scanBound)
    (fin : ∀ (G : Heap) (tk c : Nat), SetR w G s.heap.objs.size (fun j => decide (j ∈ ns)) c → c ≤ ns.length → (∀ b o, s.heap.get? b = some o → G.get? b = some o) → Q (.ref s.heap.objs.size) { s with heap := G, toks := tk }) :
    wpAny (model P w) A (call (.type "set") [.ref l]) Q E s := by
  have size_eq : items.size = ns.length := Array.length_toList.symm.trans (IntsAre.length hit)
  have each : ∀ (i : Nat) (v : Value), items[i]? = some v → ∃ k t, ns[i]? = some k ∧ v = .int k t := by
    intro i v hv
    have lt : i < ns.length := by
      rw [← size_eq]
      exact (Array.getElem?_eq_some_iff.mp hv).1
    obtain ⟨t, e⟩ := IntsAre.int_at hit i v (by rw [Array.getElem?_toList]; exact hv)
    rw [List.getD_eq_getElem?_getD, List.getElem?_eq_getElem lt] at e
    exact ⟨ns[i], t, List.getElem?_eq_getElem lt, e⟩
  have made := F.called_set.made
  have sub := F.called_set.sub
  obtain ⟨_, _, mro⟩ := F.called_set.mro
  refine wpAny_call (codeAny_of_tree (wpAny_pure ⟨Code.quiet_builtin _ (by decide +kernel), codeAny_builtin F.entry_type_call ?_⟩))
  rw [Around.under_plain (weight_type_call_type "set" [.ref l] []) rfl]
  have nt := F.called_set.notType
  have cc := F.called_set.canCreate
  have tc := F.typeCall_set_1 (.ref l)
  repeat (any_goals (first | assumption | wp_step))
  refine codeAny_mono (code_set_led1 (.ref l) (E := E) (Q₁ := fun obj t => obj = .ref s.heap.objs.size ∧ t = { s with heap := s.heap.push (mtS w) }) ⟨rfl, rfl⟩) fun r t hr => ?_
  match r, hr with
  | .error e, hr => exact hr
  | .ok .next, hr => exact hr.elim
  | .ok .brk, hr => exact hr.elim
  | .ok .cont, hr => exact hr.elim
  | .ok (.ret obj), hr =>
    obtain ⟨rfl, rfl⟩ := hr
    have at0 : (s.heap.push (mtS w)).get? s.heap.objs.size = some (mtS w) := Heap.get?_push_size _ rfl
    have ty0 : Shared.TypeIs { s with heap := s.heap.push (mtS w) } (.ref s.heap.objs.size) "set" := ⟨_, at0, rfl⟩
    have look := F.called_set.init.lookup
    have bind := F.called_set.init.bind (.ref s.heap.objs.size)
    repeat (any_goals (first | assumption | wp_step))
    refine codeAny_mono (codeAny_call_builtin (R := wants (fun r t => r = .none ∧ ∃ G tk c, t = { s with heap := G, toks := tk } ∧ SetR w G s.heap.objs.size (fun j => decide (j ∈ ns)) c ∧ c ≤ ns.length ∧ ∀ b o, s.heap.get? b = some o → G.get? b = some o) E)
      F.called_set.init.plain F.entry_set_init (check_set_init_1 ty0 ?_)) fun r t hr => ?_
    · have lt0 : l < s.heap.objs.size := by
        obtain ⟨_, e, _⟩ := hl
        exact Heap.lt_size e
      have hl1 : (s.heap.push (mtS w)).IsList l items := hl.push _
      obtain ⟨⟨ocls, odict, odata, oslots⟩, hol, hcl, nl, hdl⟩ := hl
      simp only at hcl hdl
      subst hcl hdl
      have hol1 := Heap.get?_push_of_some (mtS w) hol
      have sub1 := F.sub_list_set
      have sub2 := F.sub_list_frozenset
      have nd : (Value.type "list" == Value.type "dict") = false := by decide
      unfold Builtin.«set.__init__» noKeywords Builtin.Frozenset.updateFrom
      generalize hPI : pyIter = PI
      wp_walk
      subst hPI
      refine wpAny_pyIter_list hl1 (wpAny_bind (wpAny_runValue ?_))
      have h3 : A.in1.in1.in1.handled = none := by simp [hh]
      have sz1 : (s.heap.push (mtS w)).objs.size = s.heap.objs.size + 1 := Heap.size_push ..
      have nIt : l ≠ (s.heap.push (mtS w)).objs.size := by
        rw [sz1]
        exact Nat.ne_of_lt (Nat.lt_succ_of_lt lt0)
      have nSet : s.heap.objs.size ∉ [(s.heap.push (mtS w)).objs.size, l] := by
        rw [sz1]
        intro z
        rcases List.mem_cons.mp z with z | z
        · exact absurd z (Nat.ne_of_lt (Nat.lt_succ_self _))
        · exact absurd (List.mem_singleton.mp z) (Nat.ne_of_gt lt0)
      have W := (Walks.list (prog := P) (w := w) h3 (s.heap.push (mtS w)).objs.size l nIt items).toS
      refine set_update_ints W s.heap.objs.size nSet ns size_eq room each (items.size - 0) 0 _ (by omega) (Nat.zero_le _) ⟨⟨_, Heap.get?_push_size _ rfl, rfl, rfl⟩, hl1.push _⟩ ⟨0, Nat.le_refl 0, setR_new_at (Heap.get?_push_of_some _ at0)⟩ ?_
      rintro ⟨G, g, d, tk, os⟩ c moved hc hS
      obtain rfl : g = s.gens := moved.gens
      obtain rfl : d = s.drawn := moved.drawn
      obtain rfl : os = s.os := moved.os
      refine wpAny_pure (wpAny_pure ⟨rfl, G, tk, c, rfl, hS, size_eq ▸ hc, fun b o e => ?_⟩)
      have ltb : b < s.heap.objs.size := Heap.lt_size e
      refine moved.heap b o (fun z => ?_) (Heap.get?_push_of_some _ (Heap.get?_push_of_some _ e))
      rcases List.mem_cons.mp z with z | z
      · exact absurd z (Nat.ne_of_lt ltb)
      · have z' := List.mem_singleton.mp z
        rw [sz1] at z'
        exact absurd z' (Nat.ne_of_lt (Nat.lt_succ_of_lt ltb))
    · match r, hr with
      | .error e, hr => exact hr
      | .ok .next, hr => exact hr.elim
      | .ok .brk, hr => exact hr.elim
      | .ok .cont, hr => exact hr.elim
      | .ok (.ret r), hr =>
        obtain ⟨rfl, G, tk, c, rfl, hS, hc, kept⟩ := hr
        repeat (any_goals (first | assumption | wp_step))
        exact fin _ _ _ hS hc kept
end
/-- set(xs), xs a list or a tuple of whole numbers -/
def rSetSI (K : PySem.W.Frag) (w : World) : List V → Hp → VK → Prop := fun vs H Q => ∃ (l : Addr) (ns : List Int), vs = [.ref l] ∧ (SqL K H l (ns.map V.int) ∨ SqT K H l (ns.map V.int)) ∧ ns.length ≤ 4000 ∧
  ∀ (p : Addr) (c : Nat), H p = none → c ≤ ns.length → Q (.ref p) (upd H p (SetO w p (fun j => decide (j ∈ ns)) c))
theorem ints_of_vals : ∀ {ns : List Int} {us : List Value}, Vals (ns.map V.int) us → IntsAre us ns
  | [], _, .nil => .nil
  | n :: r, _, .cons h t => by
    obtain ⟨k, e⟩ := h
    rw [e]
    exact .cons n k (ints_of_vals t)
theorem call_setSI {X : Cx} (hc : X.calm = true) : CallR X (.type "set") (rSetSI X.K X.w) := by
  intro pins s σ H vs us Q I r h
  obtain ⟨l, ns, rfl, hq, h4, q⟩ := h
  rw [Vals.ref1 r]
  have room : ns.length + 1 < scanBound := by
    unfold scanBound
    omega
  have fin : ∀ (G : Heap) (tk c : Nat), SetR X.w G s.heap.objs.size (fun j => decide (j ∈ ns)) c → c ≤ ns.length → (∀ b o, s.heap.get? b = some o → G.get? b = some o) → EP X pins σ Q (.ref s.heap.objs.size) { s with heap := G, toks := tk } := fun G tk c hS hcl k =>
    ⟨.ref s.heap.objs.size, _, I.laid (t' := tk) k (Nat.le_refl _) (setO_new hS), rfl, q _ c (I.hok.fresh (Nat.le_refl _)) hcl⟩
  rcases hq with hq | hq
  · obtain ⟨its, rv, pl, hz⟩ := I.list hq
    exact set_of_list ns (I.ok.hd hc) pl.isList (by simpa using ints_of_vals rv) room fin
  · obtain ⟨its, rv, pl, hz⟩ := I.tuple hq
    exact call_set_tupI ns (I.ok.hd hc) pl (by simpa using ints_of_vals rv) room fin
end Kw

set_option maxRecDepth 100000
set_option maxHeartbeats 4000000
namespace Kw
open PySem PySem.Spec PyProof.Rows L2
/-- len(set(xs)), xs a list of tuples of ints: as many as unlike ones -/
def tLenSetT (K : PySem.W.Frag) (ta : TE) : TE := fun σ H Q => ta σ H fun x H1 => ∃ (l : Addr) (ks : List (Addr × List Int)), x = V.ref l ∧ SqL K H1 l (ks.map fun p => V.ref p.1) ∧ (∀ p ∈ ks, SqT K H1 p.1 (p.2.map V.int)) ∧ ks.length < 64 ∧
  ∀ n : Nat, (n = ks.length ↔ (ks.map (·.2)).Nodup) → Q (.int n) H1
theorem nodup_sub_len {α : Type} [DecidableEq α] : ∀ {ks ns : List α}, ks.Nodup → (∀ k ∈ ks, k ∈ ns) → ks.length ≤ ns.length
  | [], _, _, _ => Nat.zero_le _
  | k :: r, ns, hn, hs => by
    have hk : k ∈ ns := hs k List.mem_cons_self
    obtain ⟨h1, h2⟩ := List.nodup_cons.mp hn
    have ih := nodup_sub_len (ks := r) (ns := ns.erase k) h2 fun y hy => by
      have ne : y ≠ k := fun e => h1 (by rw [← e]; exact hy)
      exact (List.mem_erase_of_ne ne).mpr (hs y (List.mem_cons_of_mem _ hy))
    rw [List.length_erase_of_mem hk] at ih
    have := List.length_pos_of_mem hk
    show r.length + 1 ≤ ns.length
    omega
theorem nodup_of_sub_len {α : Type} [DecidableEq α] : ∀ {ns ks : List α}, ks.Nodup → (∀ k ∈ ks, k ∈ ns) → ns.length ≤ ks.length → ns.Nodup
  | [], _, _, _, _ => List.nodup_nil
  | n :: r, ks, hn, hs, hl => by
    by_cases hr : n ∈ r
    · have z := nodup_sub_len (ks := ks) (ns := r) hn fun k hk => by
        rcases List.mem_cons.mp (hs k hk) with e | e
        · rw [e]; exact hr
        · exact e
      have : r.length + 1 ≤ ks.length := hl
      omega
    · refine List.nodup_cons.mpr ⟨hr, nodup_of_sub_len (ks := ks.erase n) (hn.erase n) (fun k hk => ?_) ?_⟩
      · have h1 := (hn.mem_erase_iff).mp hk
        rcases List.mem_cons.mp (hs k h1.2) with e | e
        · exact absurd e h1.1
        · exact e
      · have h2 : r.length + 1 ≤ ks.length := hl
        by_cases hm : n ∈ ks
        · rw [List.length_erase_of_mem hm]
          omega
        · rw [List.erase_of_not_mem hm]
          omega
theorem pe_lenSetT {X : Cx} {a : Expr} {ta : TE} {p p2 q pos : Pos} (hu : X.A.units + 64 < cLine) (hg : Gl X "len") (hm : X.mg "len" = none) (hg2 : Gl X "set") (hm2 : X.mg "set" = none) (ha : PE X a ta) (hc : X.calm = true := by rfl)
    (na : starEach [a] X.env = (false, eval a X.env) :: starEach [] X.env := by rfl) : PE X (.Call (.Name "len" p) [.Call (.Name "set" p2) [a] [] q] [] pos) (tLenSetT X.K ta) := by
  refine ⟨fun pins s σ H Q I h => Call_ (ld_blt I hg hm PySem.boot_len ?_)⟩
  refine callWith_builtin1 (args_cons (Call_ (ld_blt I hg2 hm2 PyProof.Rows.boot_set ?_)) rfl) rfl rfl
  refine callWith_type1 (args_cons (thn (ha.run pins s σ H _ I h) fun v s1 ⟨x, H1, I1, r1, q1⟩ => args_nil ?_) na) na rfl
  obtain ⟨l, ks, ex, hq, hk, hf, q2⟩ := q1
  subst ex
  obtain rfl : v = Value.ref l := r1
  obtain ⟨its, rv, pl, hz⟩ := I1.list hq
  refine call_set_tups (P := X.prog) (w := X.w) ks (I1.ok.hd hc) pl.isList (by simpa using refs_of_vals rv) (fun p hp => I1.isT (hk p hp)) hf (by omega) fun h' tk L es ep t R g k => args_nil ?_
  obtain ⟨o, ho, hex, hd⟩ := R.ob
  have sz := SetTR.size (s := { s1 with heap := h', toks := tk }) R
  have I2 : Inv X pins σ H1 { s1 with heap := h', toks := tk } := I1.kept fun b o e => k b o e
  have key : L.length = ks.length ↔ (ks.map (·.2)).Nodup := by
    have sub : ∀ x ∈ L.map (·.2), x ∈ ks.map (·.2) := fun x hx => by
      obtain ⟨p, hp, rfl⟩ := List.mem_map.mp hx
      exact List.mem_map_of_mem (List.mem_of_mem_take (g.sub p hp))
    have all : ∀ x ∈ ks.map (·.2), x ∈ L.map (·.2) := fun x hx => by
      obtain ⟨p, hp, rfl⟩ := List.mem_map.mp hx
      exact g.all p (by rw [List.take_length]; exact hp)
    have l1 := nodup_sub_len R.nd sub
    rw [List.length_map, List.length_map] at l1
    constructor
    · intro e
      refine nodup_of_sub_len R.nd sub ?_
      rw [List.length_map, List.length_map, e]
      exact Nat.le_refl _
    · intro hn
      have l2 := nodup_sub_len hn all
      rw [List.length_map, List.length_map] at l2
      omega
  exact call_len_set ho hex hd (SetTR.fits (s := { s1 with heap := h', toks := tk }) R) (by have := R.few; rw [sz]; omega) ⟨.int es.size, H1, I2.tok _, ⟨_, rfl⟩, q2 es.size (by rw [sz]; exact key)⟩
end Kw

set_option maxRecDepth 100000
set_option maxHeartbeats 4000000
namespace Kw
open PySem PySem.Spec PyProof.Rows L2
theorem PE.weak {X : Cx} {e : Expr} {t t' : TE} (h : PE X e t) (w : ∀ σ H Q, t' σ H Q → t σ H Q) : PE X e t' := ⟨fun pins s σ H Q I k => h.run pins s σ H Q I (w σ H Q k)⟩
theorem PA.weak {X : Cx} {e : List Expr} {t t' : TA} (h : PA X e t) (w : ∀ σ H Q, t' σ H Q → t σ H Q) : PA X e t' := ⟨fun pos pins s σ H Q I k => h.run pos pins s σ H Q I (w σ H Q k)⟩
theorem same_nw {H : Hp} {p : Addr} {o : HO} (hp : H p = none) : Same H (upd H p o) := fun b u e => by
  rw [upd_ne (ne_of_none e hp)]
  exact e
/-- lists of ints -/
def ListsI (H : Hp) : List V → List (List Int) → Prop := Paired fun v l => ∃ t, v = .ref t ∧ H t = some (.lst (l.map V.int))
theorem ListsI.same {H H' : Hp} (s : Same H H') : ∀ {vs : List V} {ls : List (List Int)}, ListsI H vs ls → ListsI H' vs ls
  | [], [], _ => .nil
  | _ :: _, _ :: _, .cons ⟨t, e, h⟩ r => .cons ⟨t, e, s _ _ h⟩ (ListsI.same s r)
theorem ListsI.get {H : Hp} : ∀ {vs : List V} {ls : List (List Int)} {i : Nat} {l : List Int}, ListsI H vs ls → ls[i]? = some l → ∃ t, vs[i]? = some (.ref t) ∧ H t = some (.lst (l.map V.int))
  | [], [], _, _, _, h => by simp at h
  | _ :: _, _ :: _, 0, _, .cons ⟨t, e1, h⟩ _, e => by
    obtain rfl := Option.some.inj e
    exact ⟨t, by rw [e1]; rfl, h⟩
  | _ :: _, _ :: _, i + 1, _, .cons _ r, e => ListsI.get (i := i) r e
def TabsI (H : Hp) : List V → List (List (List Int)) → Prop := Paired fun v lss => ∃ t us, v = .ref t ∧ H t = some (.lst us) ∧ ListsI H us lss
theorem TabsI.get {H : Hp} : ∀ {vs : List V} {ls : List (List (List Int))} {i : Nat} {l : List (List Int)}, TabsI H vs ls → ls[i]? = some l → ∃ t us, vs[i]? = some (.ref t) ∧ H t = some (.lst us) ∧ ListsI H us l
  | [], [], _, _, _, h => by simp at h
  | _ :: _, _ :: _, 0, _, .cons ⟨t, us, e1, h⟩ _, e => by
    obtain rfl := Option.some.inj e
    exact ⟨t, us, by rw [e1]; rfl, h⟩
  | _ :: _, _ :: _, i + 1, _, .cons _ r, e => TabsI.get (i := i) r e
/-- a written list of ints -/
def tIntL (ns : List Int) : TE := fun σ H Q => ∀ p, H p = none → Q (.ref p) (upd H p (.lst (ns.map V.int)))
section
variable {X : Cx} {p p1 p2 : Pos}
theorem pe_il0 : PE X (.List [] p) (tIntL []) := PE.weak (pe_lst pa_nil) fun σ H Q k => ⟨by decide, k⟩
theorem pe_il1 {a : Int} {x1} {y1 : Pos} : PE X (.List [.Constant (.int a) x1 y1] p) (tIntL [a]) := PE.weak (pe_lst (pa_cons pe_int pa_nil)) fun σ H Q k => ⟨by show 1 ≤ sizeLine; decide, k⟩
theorem pe_il2 {a b : Int} {x1 x2} {y1 y2 : Pos} : PE X (.List [.Constant (.int a) x1 y1, .Constant (.int b) x2 y2] p) (tIntL [a, b]) := PE.weak (pe_lst (pa_cons pe_int (pa_cons pe_int pa_nil))) fun σ H Q k => ⟨by show 2 ≤ sizeLine; decide, k⟩
def tLits (lss : List (List Int)) : TA := fun σ H Q => ∀ vs H', Same H H' → ListsI H' vs lss → Q vs H'
theorem pa_lits_nil : PA X [] (tLits []) := PA.weak pa_nil fun σ H Q k => k [] H (Same.refl H) .nil
theorem pa_lits {e : Expr} {es : List Expr} {ns : List Int} {lss : List (List Int)} (he : PE X e (tIntL ns)) (hr : PA X es (tLits lss)) (hs : starEach (e :: es) X.env = (false, eval e X.env) :: starEach es X.env := by rfl) : PA X (e :: es) (tLits (ns :: lss)) :=
  PA.weak (pa_cons he hr hs) fun σ H Q k q hq vs H' s h => k _ H' (Same.trans (same_nw hq) s) (.cons ⟨q, rfl, s _ _ upd_same⟩ h)
def tLit2 (lss : List (List Int)) : TE := fun σ H Q => ∀ q us H', Same H H' → H' q = some (.lst us) → ListsI H' us lss → Q (.ref q) H'
theorem pe_lit2 {es : List Expr} {lss : List (List Int)} (h : PA X es (tLits lss)) (hl : lss.length ≤ sizeLine := by decide) : PE X (.List es p) (tLit2 lss) :=
  PE.weak (pe_lst h) fun σ H Q k vs H' s hv => ⟨by rw [Paired.length hv]; exact hl, fun q hq => k q vs _ (Same.trans s (same_nw hq)) upd_same (hv.same (same_nw hq))⟩
def tLits2 (lsss : List (List (List Int))) : TA := fun σ H Q => ∀ vs H', Same H H' → TabsI H' vs lsss → Q vs H'
theorem pa_lits2_nil : PA X [] (tLits2 []) := PA.weak pa_nil fun σ H Q k => k [] H (Same.refl H) .nil
theorem pa_lits2 {e : Expr} {es : List Expr} {ns : List (List Int)} {lss : List (List (List Int))} (he : PE X e (tLit2 ns)) (hr : PA X es (tLits2 lss)) (hs : starEach (e :: es) X.env = (false, eval e X.env) :: starEach es X.env := by rfl) : PA X (e :: es) (tLits2 (ns :: lss)) :=
  PA.weak (pa_cons he hr hs) fun σ H Q k q us H1 s1 h1 h2 vs H' s h => k _ H' (Same.trans s1 s) (.cons ⟨q, us, rfl, s _ _ h1, h2.same s⟩ h)
/-- a written list of lists of lists of ints -/
def tLit3 (lsss : List (List (List Int))) : TE := fun σ H Q => ∀ q us H', Same H H' → H' q = some (.lst us) → TabsI H' us lsss → Q (.ref q) H'
theorem TabsI.same {H H' : Hp} (s : Same H H') : ∀ {vs : List V} {ls : List (List (List Int))}, TabsI H vs ls → TabsI H' vs ls
  | [], [], _ => .nil
  | _ :: _, _ :: _, .cons ⟨t, us, e, h, h2⟩ r => .cons ⟨t, us, e, s _ _ h, h2.same s⟩ (TabsI.same s r)
theorem pe_lit3 {es : List Expr} {lsss : List (List (List Int))} (h : PA X es (tLits2 lsss)) (hl : lsss.length ≤ sizeLine := by decide) : PE X (.List es p) (tLit3 lsss) :=
  PE.weak (pe_lst h) fun σ H Q k vs H' s hv => ⟨by rw [Paired.length hv]; exact hl, fun q hq => k q vs _ (Same.trans s (same_nw hq)) upd_same (hv.same (same_nw hq))⟩
end
end Kw

set_option maxRecDepth 100000
set_option maxHeartbeats 4000000
namespace Kw
open PySem PySem.Spec PyProof.Rows L2
section
variable {X : Cx} {CX : CXT} {k : Nat} {fI C : Addr} {fd : FuncData} {ps : List Str} {sp : Sp} {x : Str} {p pos : Pos} {e : Expr} {es : List Expr} {ta : TA}
/-- C(e, ..), an own class whose __init__ may raise, where σ tells what the raising asks -/
theorem made_at {W : XK} {pins : List (Addr × Obj)} {σ : L2.St} {H : Hp} {s : Shared} {Q : VK} {us : List Value} {vs : List V} (M : Mk X.K C fI) (G : FnOk X.prog X.w X.K X.mg X.base CX k fI fd ps sp)
    (room : Room (k + 1) X.A) (bd : Binds X.K fd ps []) (out : PassesAt CX X σ W) (I : Inv X pins σ H s) (rel : Vals vs us)
    (q : ∀ o dx, H o = none → H dx = none → dx ≠ o → sp (.ref o :: vs) (upd (upd H dx (.own o)) o (.ins C dx [])) (fun v H2 => v = .non ∧ Q (.ref o) H2) W) :
    wpAny (model X.prog X.w) X.A (call (.ref C) us) (EP X pins σ Q) X.xe s := by
  generalize en : s.heap.objs.size = n at *
  have J := Inv.made (C := C) I
  rw [en] at J
  have f1 : H (n + 1) = none := I.hok.fresh (by rw [en]; exact Nat.le_succ _)
  have f2 : H n = none := I.hok.fresh (by rw [en]; exact Nat.le_refl _)
  have go := q (n + 1) n f1 f2 (Nat.ne_of_lt (Nat.lt_succ_self _))
  have rel2 : Vals (V.ref (n + 1) :: vs) (Value.ref (n + 1) :: us) := .cons rfl rel
  have len : (Value.ref (n + 1) :: us ++ []).length = ps.length := by
    rw [List.append_nil, ← rel2.length]
    exact G.len _ _ _ _ go
  have b2 := bd _ (Value.ref (n + 1) :: us) J.kIn len
  rw [List.append_nil] at b2
  have ran := G.run _ X.stack _ _ ⟨Value.ref (n + 1) :: us, []⟩ (Value.ref (n + 1) :: us) _ _ W (room.make C us []) (J.env0.make C us []) b2 rel2 go
  refine wpAny_call (make_map (f := fI) I.kIn M.makes M.init (beq_iff_eq.mp M.fn) ?_)
  rw [en]
  refine codeAny_mono ran fun r s' z => ?_
  cases r with
  | error er => exact out pins _ _ er s' J z
  | ok fl =>
    cases fl with
    | ret u =>
      obtain ⟨v, H3, I3, rv, ev, q3⟩ := J.after z
      subst ev
      exact ⟨rv, .ref (n + 1), H3, I3, rfl, q3⟩
    | next => exact False.elim z
    | brk => exact False.elim z
    | cont => exact False.elim z
def tMadeS (C : Addr) (sp : Sp) (W : L2.St → XK) (ta : TA) : TE := fun σ H Q => ta σ H fun vs H1 => ∀ o dx, H1 o = none → H1 dx = none → dx ≠ o → sp (.ref o :: vs) (upd (upd H1 dx (.own o)) o (.ins C dx [])) (fun v H2 => v = .non ∧ Q (.ref o) H2) (W σ)
theorem pe_madeS {W : L2.St → XK} (M : Mk X.K C fI) (G : FnOk X.prog X.w X.K X.mg X.base CX k fI fd ps sp) (room : Room (k + 1) X.A) (hg : Gl X x) (hm : X.mg x = some (.ref C)) (bd : Binds X.K fd ps []) (out : ∀ σ, PassesAt CX X σ (W σ))
    (ha : PA X (e :: es) ta) (hdb : (x == ("__debug__" : Str)) = false := by decide) (he : starEach (e :: es) X.env = (false, eval e X.env) :: starEach es X.env := by rfl) (hpl : (backTo pos (starEach es X.env)).any (·.1) = false := by rfl) :
    PE X (.Call (.Name x p) (e :: es) [] pos) (tMadeS C sp W ta) := by
  refine ⟨fun pins s σ H Q I h => wpAny_Call_Name_kw (ld_glob I hg hm ?_ hdb)⟩
  refine PySem.W.callWith_K (h₀ := X.base) I.ok.mod.kin M.kp (thn (ha.run pos pins s σ H _ I h) fun us s1 ⟨vs, H1, I1, r1, q1⟩ => ?_) he hpl
  exact ⟨I1.kIn, made_at M G room bd (out σ) I1 r1 q1⟩
variable {o : Expr} {to : TE} {m : Str} {apos : Pos}
/-- o.m(e, ..), a method that may raise, where σ tells what the raising asks -/
def tMethU (C : Addr) (m : Str) (sp : Sp) (W : L2.St → XK) (to : TE) (ta : TA) : TE := fun σ H Q => to σ H fun x H1 => ∃ a dx fs, x = .ref a ∧ H1 a = some (.ins C dx fs) ∧ fs.lookup m = none ∧ ta σ H1 fun vs H2 => sp (.ref a :: vs) H2 Q (W σ)
theorem pe_methU {W : L2.St → XK} {pl : Sem Bool} (ho : PE X o to) (cl : Cls X.K C) (mt : Meth X.K C m fI) (G : FnOk X.prog X.w X.K X.mg X.base CX k fI fd ps sp) (room : Room k X.A) (bd : Binds X.K fd ps []) (out : ∀ σ, PassesAt CX X σ (W σ)) (args : PA X (e :: es) ta)
    (h1 : starEach (e :: es) X.env = (false, eval e X.env) :: starEach es X.env := by rfl) (h2 : (backTo pos (starEach es X.env)).any (·.1) = false := by rfl)
    (way : eval (.Call (.Attribute o m apos) (e :: es) [] pos) X.env = (do let ov ← eval o X.env; standAt apos.atName; let (f, first) ← holding [ov] (getMethod ov m pl); callWith pos f first (backTo pos (starEach (e :: es) X.env)) (backToKw pos (keywordEach [] X.env))) := by rfl) :
    PE X (.Call (.Attribute o m apos) (e :: es) [] pos) (tMethU C m sp W to ta) := by
  refine ⟨fun pins s σ H Q I h => PySem.W.methodCall_KW (pl := pl) (thn (ho.run pins s σ H _ I h) fun u s1 z => ?_) way⟩
  obtain ⟨x, H1, I1, rx, a, dx, fs, rfl, ea, l, q⟩ := z
  obtain rfl : u = Value.ref a := rx
  refine getmeth_ok I1 ea cl mt l (PySem.W.callWith_K (first := [.ref a]) (h₀ := X.base) I.ok.mod.kin mt.kp (thn (args.run pos pins s1 σ H1 _ I1 q) fun us s2 z => ?_) h1 h2)
  obtain ⟨vs, H2, I2, r, q2⟩ := z
  exact ⟨I2.kIn, run_fnS (us := .ref a :: us) (vs := .ref a :: vs) G room bd (out σ) I2 (.cons rfl r) q2⟩
end
end Kw

set_option maxRecDepth 100000
set_option maxHeartbeats 4000000
namespace K15
open PySem PySem.Spec PyProof.Rows L2 Kw
def top (i : Nat) : Stmt := PySem.Challenge.pw_headamid_k15_whole_one_look_for_classes.main.body.getD i (.Pass ⟨0, 0, 0, 0⟩)
abbrev FnP (K : PySem.W.Frag) (x : Str) (i : Nat) (f : Addr) (fd : FuncData) : Prop := FunD K x x (defArgs (top i)) (defBody (top i)) (defScope (top i)) [] [] f fd
abbrev FnDf (K : PySem.W.Frag) (x : Str) (i : Nat) (dvs : List V) (f : Addr) (fd : FuncData) : Prop := FunD K x x (defArgs (top i)) (defBody (top i)) (defScope (top i)) dvs [] f fd
theorem same_new {H : Hp} {p : Addr} {o : HO} (hp : H p = none) : Same H (upd H p o) := fun b u e => by
  rw [upd_ne (ne_of_none e hp)]
  exact e
/-- a plain thing's type stays -/
inductive Ty0 (H : Hp) : V → String → Prop where
  | non : Ty0 H .non "NoneType"
  | bl (x : Bool) : Ty0 H (.bl x) "bool"
  | int (i : Int) : Ty0 H (.int i) "int"
  | str (x : Str) : Ty0 H (.str x) "str"
  | lst {a : Addr} {xs : List V} (e : H a = some (.lst xs)) : Ty0 H (.ref a) "list"
  | tup {a : Addr} {xs : List V} (e : H a = some (.tup xs)) : Ty0 H (.ref a) "tuple"
  | dK {a : Addr} {kvs : List (Key × V)} (e : H a = some (.dK kvs)) : Ty0 H (.ref a) "dict"
theorem Ty0.same {H H' : Hp} {x : V} {t : String} (h : Ty0 H x t) (s : Same H H') : Ty0 H' x t := by
  cases h with
  | non => exact .non
  | bl x => exact .bl x
  | int i => exact .int i
  | str x => exact .str x
  | lst e => exact .lst (s _ _ e)
  | tup e => exact .tup (s _ _ e)
  | dK e => exact .dK (s _ _ e)
theorem Ty0.x {K : PySem.W.Frag} {H : Hp} {x : V} {t : String} (h : Ty0 H x t) : TyX K H x (.type t) := by
  cases h with
  | non => exact .base .non
  | bl x => exact .base (.bl x)
  | int i => exact .base (.int i)
  | str x => exact .base (.str x)
  | lst e => exact .base (.lst e)
  | tup e => exact .base (.tup e)
  | dK e => exact .base (.dK e)
def seqT (t : String) : Bool := t == "list" || t == "tuple"
theorem Ty0.seq {K : PySem.W.Frag} {H : Hp} {x : V} {t : String} (h : Ty0 H x t) : PySem.W.kitAny K (.type t) [.type "list", .type "tuple"] = some (seqT t) := by
  have two : kitB t "list" = some (t == "list") → kitB t "tuple" = some (t == "tuple") → PySem.W.kitAny K (.type t) [.type "list", .type "tuple"] = some (seqT t) := fun hb hc => by
    unfold seqT
    refine kitAny_cons (kit_ty hb) (fun eb => ?_) fun eb => by rw [eb]; rfl
    rw [eb, Bool.false_or]
    refine kitAny_cons (kit_ty hc) (fun ec => ?_) fun ec => ec
    rw [ec]
    exact kitAny_nil
  cases h <;> exact two (by decide +kernel) (by decide +kernel)
theorem Ty0.isBool {K : PySem.W.Frag} {H : Hp} {x : V} {t : String} (h : Ty0 H x t) : PySem.W.kitOne K (.type t) (.type "bool") = some (t == "bool") := by
  cases h <;> exact kit_ty (by decide +kernel)
theorem Ty0.isInt {K : PySem.W.Frag} {H : Hp} {x : V} {t : String} (h : Ty0 H x t) : PySem.W.kitOne K (.type t) (.type "int") = some (t == "bool" || t == "int") := by
  cases h <;> exact kit_ty (by decide +kernel)
structure Fr (mg : Str → Option Value) : Prop where
  isinstance : mg "isinstance" = none
  list : mg "list" = none
  tuple : mg "tuple" = none
  bool : mg "bool" = none
  int : mg "int" = none
  len : mg "len" = none
  set : mg "set" = none
  range : mg "range" = none
  sorted : mg "sorted" = none
  enumerate : mg "enumerate" = none
section
variable {P : Program} {w : World} {K : PySem.W.Frag} {mg : Str → Option Value} {base : Heap} {f : Addr} {fd : FuncData}
/-! ### is_sequence -/
def spIsSeq : Sp := fun vs H Q _ => ∃ (x : V) (t : String), vs = [x] ∧ Ty0 H x t ∧ ∀ H', Same H H' → Q (.bl (seqT t)) H'
theorem sc_isSeq : FnScope ["thing"] ["thing"] (defScope (top 10)) := ⟨rfl, rfl, rfl, by decide +kernel, rfl, by decide +kernel, by decide +kernel⟩
theorem ok_isSeq (F : FnP K "is_sequence" 10 f fd) (B : Fr mg) : FnOk P w K mg base CX0 1 f fd ["thing"] spIsSeq := by
  refine F.ok sc_isSeq (fun vs H Q E h => ?_) (fun cdv A outer s H vs Q E hr h => ?_)
  · obtain ⟨x, t, rfl, _⟩ := h
    rfl
  · obtain ⟨x, t, rfl, ty, k⟩ := h
    refine ⟨_, PSs.nox (pss_one (ps_ret (pe_callB call_isiT (by rfl) B.isinstance PyProof.Rows.boot_isinstance (pa_cons (pv 0) (pa_cons (pe_tup (pa_cons (pe_bltn (v := .ty "list") (by rfl) B.list PyProof.Rows.boot_list rfl) (pa_cons (pe_bltn (v := .ty "tuple") (by rfl) B.tuple PyProof.Rows.boot_tuple rfl) pa_nil))) pa_nil))))), ?_⟩
    exact ⟨_, rfl, (by show 2 ≤ sizeLine; decide), fun p np => ⟨x, p, _, _, _, _, rfl, upd_same, .cons (.ty "list") (.cons (.ty "tuple") .nil), (ty.same (same_new np)).x, ty.seq, k _ (same_new np)⟩⟩
/-! ### is_whole -/
def inLo : V → Int → Bool
  | .int l, i => decide (l ≤ i)
  | _, _ => true
def inHi : V → Int → Bool
  | .int h, i => decide (i ≤ h)
  | _, _ => true
def Lim (x : V) : Prop := x = .non ∨ ∃ i, x = .int i
def wholeB (lo hi : V) : V → Bool
  | .int i => inLo lo i && inHi hi i
  | _ => false
def spWhole : Sp := fun vs H Q _ => ∃ (x lo hi : V) (t : String), vs = [x, lo, hi] ∧ Ty0 H x t ∧ Lim lo ∧ Lim hi ∧ Q (.bl (wholeB lo hi x)) H
theorem sc_whole : FnScope ["thing", "low", "high"] ["thing", "low", "high"] (defScope (top 11)) := ⟨rfl, rfl, rfl, by decide +kernel, rfl, by decide +kernel, by decide +kernel⟩
theorem ok_whole (F : FnDf K "is_whole" 11 [.non, .non] f fd) (B : Fr mg) : FnOk P w K mg base CX0 1 f fd ["thing", "low", "high"] spWhole := by
  refine F.ok sc_whole (fun vs H Q E h => ?_) (fun cdv A outer s H vs Q E hr h => ?_)
  · obtain ⟨x, lo, hi, t, rfl, _⟩ := h
    rfl
  · obtain ⟨x, lo, hi, t, rfl, ty, hlo, hhi, k⟩ := h
    refine ⟨_, PSs.nox (pss_cons (ps_if (PW.pt (pw_or (pt_val (pe_callB call_isi (by rfl) B.isinstance PyProof.Rows.boot_isinstance (pa_cons (pv 0) (pa_cons (pe_bltn (v := .ty "bool") (by rfl) B.bool PyProof.Rows.boot_bool rfl) pa_nil))))
        (pw_or1 (pt_not (pt_val (pe_callB call_isi (by rfl) B.isinstance PyProof.Rows.boot_isinstance (pa_cons (pv 0) (pa_cons (pe_bltn (v := .ty "int") (by rfl) B.int PyProof.Rows.boot_int rfl) pa_nil)))))))) (pss_one (ps_ret pe_bl)) pss_nil)
      (pss_cons (ps_if (PW.pt (pw_and (pt_cmpR op_notN (pv 1) pe_non (nomark _)) (pw_and1 (pt_cmpR op_lt (pv 0) (pv 1) (nomark _))))) (pss_one (ps_ret pe_bl)) pss_nil)
      (pss_one (ps_ret (pe_or (pe_cmpR op_isN (pv 2) pe_non (nomark _)) (pe_one (pe_cmpR op_le (pv 0) (pv 2) (nomark _)))))))), ?_⟩
    have tyx := ty.x (K := K)
    have tyb := ty.isBool (K := K)
    have tyi := ty.isInt (K := K)
    refine ⟨_, rfl, x, _, _, _, _, rfl, .ty "bool", tyx, tyb, _, rfl, ?_⟩
    cases ty with
    | bl y => exact iteT k
    | int i =>
      refine iteF ⟨_, rfl, _, _, _, _, _, rfl, .ty "int", tyx, tyi, _, rfl, iteF ?_⟩
      have go2 : inLo lo i = true → (tRet (tOrV (tOp (fun x y H Q => y = V.non ∧ Q (V.bl (decide (x = V.non))) H) (tVar 2) (tC V.non)) (tOp (rI0 fun i j => V.bl (decide (i ≤ j))) (tVar 0) (tVar 2)))) { nx := fun _ H' => Q .non H', rt := Q } [some (.int i), some lo, some hi] H := fun e => by
        refine ⟨_, rfl, rfl, _, rfl, ?_⟩
        have k' : Q (.bl (inHi hi i)) H := by
          have z : wholeB lo hi (.int i) = inHi hi i := by
            show (inLo lo i && inHi hi i) = inHi hi i
            rw [e, Bool.true_and]
          rw [← z]
          exact k
        rcases hhi with rfl | ⟨h, rfl⟩
        · exact k'
        · exact ⟨_, rfl, _, rfl, _, _, rfl, rfl, k'⟩
      rcases hlo with rfl | ⟨l, rfl⟩
      · exact ⟨_, rfl, rfl, _, rfl, go2 rfl⟩
      · refine ⟨_, rfl, rfl, _, rfl, _, rfl, _, rfl, _, _, rfl, rfl, _, rfl, ?_⟩
        by_cases hl : i < l
        · rw [decide_eq_true hl]
          refine iteT ?_
          have z : wholeB (.int l) hi (.int i) = false := by
            show (decide (l ≤ i) && inHi hi i) = false
            rw [decide_eq_false (by omega), Bool.false_and]
          rw [z] at k
          exact k
        · rw [decide_eq_false hl]
          exact iteF (go2 (decide_eq_true (by omega)))
    | non => exact iteF ⟨_, rfl, _, _, _, _, _, rfl, .ty "int", tyx, tyi, _, rfl, iteT k⟩
    | str y => exact iteF ⟨_, rfl, _, _, _, _, _, rfl, .ty "int", tyx, tyi, _, rfl, iteT k⟩
    | lst e => exact iteF ⟨_, rfl, _, _, _, _, _, rfl, .ty "int", tyx, tyi, _, rfl, iteT k⟩
    | tup e => exact iteF ⟨_, rfl, _, _, _, _, _, rfl, .ty "int", tyx, tyi, _, rfl, iteT k⟩
    | dK e => exact iteF ⟨_, rfl, _, _, _, _, _, rfl, .ty "int", tyx, tyi, _, rfl, iteT k⟩
end
end K15

set_option maxRecDepth 100000
set_option maxHeartbeats 4000000
namespace K15
open PySem PySem.Spec PyProof.Rows L2 Kw
/-- a list or a tuple of these -/
def SeqAt (H : Hp) (a : Addr) (xs : List V) : Prop := H a = some (.lst xs) ∨ H a = some (.tup xs)
theorem SeqAt.same {H H' : Hp} {a : Addr} {xs : List V} (h : SeqAt H a xs) (s : Same H H') : SeqAt H' a xs := by
  rcases h with h | h
  · exact .inl (s _ _ h)
  · exact .inr (s _ _ h)
theorem SeqAt.sq {K : PySem.W.Frag} {H : Hp} {a : Addr} {xs : List V} (h : SeqAt H a xs) : SqL K H a xs ∨ SqT K H a xs := by
  rcases h with h | h
  · exact .inl (SqL.of h)
  · exact .inr (SqT.of h)
theorem SeqAt.ty {H : Hp} {a : Addr} {xs : List V} (h : SeqAt H a xs) : ∃ t, Ty0 H (.ref a) t ∧ seqT t = true := by
  rcases h with h | h
  · exact ⟨_, .lst h, rfl⟩
  · exact ⟨_, .tup h, rfl⟩
def intOf : V → Int
  | .int i => i
  | _ => 0
theorem ints_of {lo hi : V} : ∀ {xs : List V}, (∀ x ∈ xs, wholeB lo hi x = true) → xs = (xs.map intOf).map V.int
  | [], _ => rfl
  | x :: r, h => by
    have hx := h x List.mem_cons_self
    have e : x = V.int (intOf x) := by
      cases x with
      | int i => rfl
      | _ => cases hx
    rw [List.map_cons, List.map_cons, ← e, ← ints_of (xs := r) fun y hy => h y (List.mem_cons_of_mem _ hy)]
def unlikeB (m : Int) (xs : List V) : Bool := xs.all (fun x => wholeB (.int 0) (.int (m - 1)) x) && decide ((xs.map intOf).Nodup)
section
variable {P : Program} {w : World} {K : PySem.W.Frag} {mg : Str → Option Value} {base : Heap} {f fS fW : Addr} {fd fdS fdW : FuncData}
theorem binds_whole3 (F : FnDf K "is_whole" 11 [.non, .non] f fd) : L2.Binds K fd ["thing", "low", "high"] [] := by
  obtain ⟨ds, v, b⟩ := F.binds1 (ps := ["thing", "low", "high"]) 3 2 (by simp) rfl fun T kV doc pm an cdv ct us its hu hi => match us, hu, its, hi with | [_, _, _], _, [_, _], _ => ⟨_, rfl, rfl⟩
  cases v
  exact b
theorem binds_whole1 (F : FnDf K "is_whole" 11 [.non, .non] f fd) : ∃ ds, Vals [.non, .non] ds ∧ L2.Binds K fd ["thing", "low", "high"] ds :=
  F.binds1 (ps := ["thing", "low", "high"]) 1 0 (by simp) rfl fun T kV doc pm an cdv ct us its hu hi => match us, hu, its, hi with | [_], _, [_, _], _ => ⟨_, rfl, rfl⟩
/-- what is_unlike_row says of a thing, and how long it is where it is a row -/
def UnlikeIs (H : Hp) (x : V) (m : Int) (r : Bool) (n : Nat) : Prop :=
  (∃ t, Ty0 H x t ∧ seqT t = false ∧ r = false) ∨ (∃ a xs, x = .ref a ∧ SeqAt H a xs ∧ xs.length ≤ 1000 ∧ (∀ y ∈ xs, ∃ t, Ty0 H y t) ∧ r = unlikeB m xs ∧ n = xs.length)
theorem UnlikeIs.same {H H' : Hp} {x : V} {m : Int} {r : Bool} {n : Nat} (h : UnlikeIs H x m r n) (s : Same H H') : UnlikeIs H' x m r n := by
  rcases h with ⟨t, ty, e1, e2⟩ | ⟨a, xs, e, hA, hl, hty, e1, e2⟩
  · exact .inl ⟨t, ty.same s, e1, e2⟩
  · exact .inr ⟨a, xs, e, hA.same s, hl, fun y hy => ⟨_, (hty y hy).choose_spec.same s⟩, e1, e2⟩
def spUnlike : Sp := fun vs H Q _ => ∃ (x : V) (m : Int) (r : Bool) (n : Nat), vs = [x, .int m] ∧ UnlikeIs H x m r n ∧ ∀ H', Same H H' → Q (.bl r) H'
theorem sc_unlike : FnScope ["thing", "many", "item"] ["thing", "many"] (defScope (top 12)) := ⟨rfl, rfl, rfl, by decide +kernel, rfl, by decide +kernel, by decide +kernel⟩
theorem ok_unlike (F : FnP K "is_unlike_row" 12 f fd) (B : Fr mg) (FS : FnP K "is_sequence" 10 fS fdS) (mS : mg "is_sequence" = some (.ref fS)) (FW : FnDf K "is_whole" 11 [.non, .non] fW fdW) (mW : mg "is_whole" = some (.ref fW)) :
    FnOk P w K mg base CX0 2 f fd ["thing", "many"] spUnlike := by
  have GS : FnOk P w K mg base CX0 1 fS fdS ["thing"] spIsSeq := ok_isSeq FS B
  have GW : FnOk P w K mg base CX0 1 fW fdW ["thing", "low", "high"] spWhole := ok_whole FW B
  have bS : L2.Binds K fdS ["thing"] [] := FS.bindsN fun _ _ _ _ _ _ us hl => match us, hl with | [_], _ => rfl
  have bW := binds_whole3 FW
  refine F.ok sc_unlike (fun vs H Q E h => ?_) (fun cdv A outer s H vs Q E hr h => ?_)
  · obtain ⟨x, m, r, n, rfl, _⟩ := h
    rfl
  · obtain ⟨x, m, r, n, rfl, h, k⟩ := h
    rcases h with ⟨t, ty, hs, rfl⟩ | ⟨a, xs, rfl, hA, hl, hty, rfl, rfl⟩
    · refine ⟨_, PSs.nox (pss_cons (ps_if (pt_not (pt_val (pe_call GS (hr.mono (by decide)) (by rfl) mS FS.kp bS .nil pass0 (pa_cons (pv 0) pa_nil)))) (pss_one (ps_ret pe_bl)) pss_nil)
      (pss_cons (ps_for PassesOwn.never rfl (pi_list (pv 0)) (pg_name (i := 2) sc_unlike.nd rfl (Or.inl rfl)) (pss_one (ps_if (pt_not (pt_val (pe_call GW (hr.mono (by decide)) (by rfl) mW FW.kp bW .nil pass0 (pa_cons (pv 2) (pa_cons pe_int (pa_cons (pe_op op_sub (pv 1) pe_int) pa_nil)))))) (pss_one (ps_ret pe_bl)) pss_nil)))
      (pss_one (ps_ret (pe_cmpR op_eq (pe_lenSetA (by rfl) B.len (by rfl) B.set (pv 0)) (pe_callB call_len_seq (by rfl) B.len PySem.boot_len (pa_cons (pv 0) pa_nil)) (nomark _)))))), ?_⟩
      exact ⟨_, rfl, x, t, rfl, ty, fun H1 s1 => ⟨_, rfl, by rw [hs]; exact iteT (k H1 s1)⟩⟩
    · obtain ⟨t, ty, hseq⟩ := hA.ty
      -- a turn: an item that is no such number ends it
      have turn : ∀ (i : Nat) (y : V) (H' : Hp) (v : Option V), xs[i]? = some y → Same H H' → (∀ j z, j < i → xs[j]? = some z → wholeB (.int 0) (.int (m - 1)) z = true) → ∀ (N : L2.St → Hp → Prop),
          (∀ H'', Same H H'' → (∀ j z, j < i + 1 → xs[j]? = some z → wholeB (.int 0) (.int (m - 1)) z = true) → N [some (.ref a), some (.int m), some y] H'') → ∀ D : Ends, D.rt = Q → D.nx = N →
          (tIfS (tNot (tB (tCall spWhole [] E0 (tCons (tVar 2) (tCons (tC (.int 0)) (tCons (tOp (rI0 fun i j => .int (i - j)) (tVar 1) (tC (.int 1))) tNil)))))) (tRet (tC (.bl false))) tNext) D [some (.ref a), some (.int m), some y] H' := by
        intro i y H' v hi sH hall N hN D hrt hnx
        obtain ⟨ty', hy⟩ := hty y (List.mem_of_getElem? hi)
        refine ⟨_, rfl, _, rfl, _, _, rfl, rfl, y, _, _, ty', rfl, hy.same sH, .inr ⟨_, rfl⟩, .inr ⟨_, rfl⟩, _, rfl, ?_⟩
        cases hb : wholeB (.int 0) (.int (m - 1)) y with
        | false =>
          refine iteT ?_
          show D.rt (.bl false) H'
          rw [hrt]
          have e : unlikeB m xs = false := by
            unfold unlikeB
            have z : xs.all (fun x => wholeB (.int 0) (.int (m - 1)) x) = false := List.all_eq_false.mpr ⟨y, List.mem_of_getElem? hi, by rw [hb]; decide⟩
            rw [z, Bool.false_and]
          rw [← e]
          exact k H' sH
        | true =>
          refine iteF ?_
          show D.nx _ H'
          rw [hnx]
          refine hN H' sH fun j z hj hz => ?_
          by_cases e : j = i
          · rw [e, hi] at hz
            rw [← Option.some.inj hz]
            exact hb
          · exact hall j z (by omega) hz
      have done : ∀ (H' : Hp) (v : Option V), Same H H' → (∀ j z, j < xs.length → xs[j]? = some z → wholeB (.int 0) (.int (m - 1)) z = true) →
          (tRet (tOp rEq (tLenSetA K (tVar 0)) (tCB (fun xs H Q => ∃ p ys, xs = [.ref p] ∧ (SqL K H p ys ∨ SqT K H p ys) ∧ Q (.int ys.length) H) (tCons (tVar 0) tNil)))) { nx := fun _ H' => Q .non H', rt := Q } [some (.ref a), some (.int m), v] H' := by
        intro H' v sH hall
        have hall' : ∀ z ∈ xs, wholeB (.int 0) (.int (m - 1)) z = true := fun z hz => by
          obtain ⟨j, hj, e⟩ := List.mem_iff_getElem.mp hz
          exact hall j z hj (by rw [List.getElem?_eq_getElem hj, e])
        have ei := ints_of hall'
        have sq := (hA.same sH).sq (K := K)
        have sq' : SqL K H' a ((xs.map intOf).map V.int) ∨ SqT K H' a ((xs.map intOf).map V.int) := by
          rw [← ei]
          exact sq
        refine ⟨_, rfl, a, xs.map intOf, rfl, sq', by rw [List.length_map]; omega, fun n hn => ⟨_, rfl, a, _, rfl, sq, rfl, ?_⟩⟩
        have e : decide (V.int (n : Int) = V.int (xs.length : Int)) = unlikeB m xs := by
          unfold unlikeB
          rw [List.all_eq_true.mpr hall', Bool.true_and]
          rw [List.length_map] at hn
          by_cases q : (xs.map intOf).Nodup
          · rw [decide_eq_true q, decide_eq_true (by rw [hn.mpr q])]
          · rw [decide_eq_false q, decide_eq_false fun z => q (hn.mp (by have := V.int.inj z; omega))]
        rw [e]
        exact k H' sH
      have at_ty : ∀ H1, Same H H1 → SeqAt H1 a xs := fun H1 s1 => hA.same s1
      rcases hA with hA | hA
      · refine ⟨_, PSs.nox (pss_cons (ps_if (pt_not (pt_val (pe_call GS (hr.mono (by decide)) (by rfl) mS FS.kp bS .nil pass0 (pa_cons (pv 0) pa_nil)))) (pss_one (ps_ret pe_bl)) pss_nil)
      (pss_cons (ps_for PassesOwn.never rfl (pi_list (pv 0)) (pg_name (i := 2) sc_unlike.nd rfl (Or.inl rfl)) (pss_one (ps_if (pt_not (pt_val (pe_call GW (hr.mono (by decide)) (by rfl) mW FW.kp bW .nil pass0 (pa_cons (pv 2) (pa_cons pe_int (pa_cons (pe_op op_sub (pv 1) pe_int) pa_nil)))))) (pss_one (ps_ret pe_bl)) pss_nil)))
      (pss_one (ps_ret (pe_cmpR op_eq (pe_lenSetA (by rfl) B.len (by rfl) B.set (pv 0)) (pe_callB call_len_seq (by rfl) B.len PySem.boot_len (pa_cons (pv 0) pa_nil)) (nomark _)))))), ?_⟩
        refine ⟨_, rfl, _, t, rfl, ty, fun H1 s1 => ⟨_, rfl, ?_⟩⟩
        rw [hseq]
        refine iteF ?_
        refine ⟨_, rfl, a, rfl, ⟨_, SqL.of (s1 _ _ hA)⟩, for_list (K := K) (a := a) (xs := xs) (fun i σ H' => Same H H' ∧ (∃ v, σ = [some (.ref a), some (.int m), v]) ∧ ∀ j z, j < i → xs[j]? = some z → wholeB (.int 0) (.int (m - 1)) z = true)
          ⟨s1, ⟨_, rfl⟩, fun j z hj => absurd hj (Nat.not_lt_zero j)⟩ (fun i σ H' _ h => SqL.of (h.1 _ _ hA)) ?_ ?_⟩
        · rintro i y σ H' hi ⟨sH, ⟨v, rfl⟩, hall⟩
          exact turn i y H' v hi sH hall _ (fun H'' s hh => ⟨s, ⟨_, rfl⟩, hh⟩) _ rfl rfl
        · rintro σ H' ⟨sH, ⟨v, rfl⟩, hall⟩
          exact done H' v sH hall
      · refine ⟨_, PSs.nox (pss_cons (ps_if (pt_not (pt_val (pe_call GS (hr.mono (by decide)) (by rfl) mS FS.kp bS .nil pass0 (pa_cons (pv 0) pa_nil)))) (pss_one (ps_ret pe_bl)) pss_nil)
      (pss_cons (ps_for PassesOwn.never rfl (pi_tup (pv 0)) (pg_name (i := 2) sc_unlike.nd rfl (Or.inl rfl)) (pss_one (ps_if (pt_not (pt_val (pe_call GW (hr.mono (by decide)) (by rfl) mW FW.kp bW .nil pass0 (pa_cons (pv 2) (pa_cons pe_int (pa_cons (pe_op op_sub (pv 1) pe_int) pa_nil)))))) (pss_one (ps_ret pe_bl)) pss_nil)))
      (pss_one (ps_ret (pe_cmpR op_eq (pe_lenSetA (by rfl) B.len (by rfl) B.set (pv 0)) (pe_callB call_len_seq (by rfl) B.len PySem.boot_len (pa_cons (pv 0) pa_nil)) (nomark _)))))), ?_⟩
        refine ⟨_, rfl, _, t, rfl, ty, fun H1 s1 => ⟨_, rfl, ?_⟩⟩
        rw [hseq]
        refine iteF ?_
        refine ⟨_, rfl, a, rfl, ⟨_, SqT.of (s1 _ _ hA)⟩, for_tup (K := K) (a := a) (xs := xs) (fun i σ H' => Same H H' ∧ (∃ v, σ = [some (.ref a), some (.int m), v]) ∧ ∀ j z, j < i → xs[j]? = some z → wholeB (.int 0) (.int (m - 1)) z = true)
          ⟨s1, ⟨_, rfl⟩, fun j z hj => absurd hj (Nat.not_lt_zero j)⟩ (fun i σ H' _ h => SqT.of (h.1 _ _ hA)) ?_ ?_⟩
        · rintro i y σ H' hi ⟨sH, ⟨v, rfl⟩, hall⟩
          exact turn i y H' v hi sH hall _ (fun H'' s hh => ⟨s, ⟨_, rfl⟩, hh⟩) _ rfl rfl
        · rintro σ H' ⟨sH, ⟨v, rfl⟩, hall⟩
          exact done H' v sH hall
end
end K15

set_option maxRecDepth 100000
set_option maxHeartbeats 4000000
namespace K15
open PySem PySem.Spec PyProof.Rows L2 Kw
def optV : Option Str → V
  | some z => .str z
  | none => .non
/-- the word due for an entry -/
def entryWord (rb rm : Bool) (wg : Bool) (nm : Nat) : Option Str :=
  if rb = false then some "base" else if wg = false then some "fields" else if rm = false then some "method" else if 3 < nm then some "method" else none
def EntryIs (H : Hp) (x : V) (c : Int) (what : Option Str) : Prop :=
  (∃ t, Ty0 H x t ∧ seqT t = false ∧ what = some "class") ∨ (∃ a xs, x = .ref a ∧ SeqAt H a xs ∧ xs.length ≠ 3 ∧ what = some "class") ∨
  (∃ a b g m rb nb tg rm nm, x = .ref a ∧ SeqAt H a [b, g, m] ∧ UnlikeIs H b c rb nb ∧ Ty0 H g tg ∧ UnlikeIs H m 6 rm nm ∧ what = entryWord rb rm (wholeB (.int 0) (.int 3) g) nm)
def spEntry : Sp := fun vs H Q _ => ∃ (x : V) (c : Int) (what : Option Str), vs = [x, .int c] ∧ EntryIs H x c what ∧ ∀ H', Same H H' → Q (optV what) H'
structure Cst (mg : Str → Option Value) : Prop where
  mf : ∃ t, mg "MOST_FIELDS" = some (.int 3 t)
  mm : ∃ t, mg "MOST_METHODS" = some (.int 3 t)
  mn : ∃ t, mg "METHOD_NAMES" = some (.int 6 t)
  mc : ∃ t, mg "MOST_CLASSES" = some (.int 12 t)
section
variable {P : Program} {w : World} {K : PySem.W.Frag} {mg : Str → Option Value} {base : Heap} {f fS fW fU : Addr} {fd fdS fdW fdU : FuncData}
theorem sc_entry : FnScope ["entry", "c", "bases", "fields", "methods"] ["entry", "c"] (defScope (top 31)) := ⟨rfl, rfl, rfl, by decide +kernel, rfl, by decide +kernel, by decide +kernel⟩
theorem ok_entry (F : FnP K "entry_fault" 31 f fd) (B : Fr mg) (Z : Cst mg) (FS : FnP K "is_sequence" 10 fS fdS) (mS : mg "is_sequence" = some (.ref fS)) (FW : FnDf K "is_whole" 11 [.non, .non] fW fdW) (mW : mg "is_whole" = some (.ref fW))
    (FU : FnP K "is_unlike_row" 12 fU fdU) (mU : mg "is_unlike_row" = some (.ref fU)) : FnOk P w K mg base CX0 3 f fd ["entry", "c"] spEntry := by
  have GS : FnOk P w K mg base CX0 1 fS fdS ["thing"] spIsSeq := ok_isSeq FS B
  have GW : FnOk P w K mg base CX0 1 fW fdW ["thing", "low", "high"] spWhole := ok_whole FW B
  have GU : FnOk P w K mg base CX0 2 fU fdU ["thing", "many"] spUnlike := ok_unlike FU B FS mS FW mW
  have bS : L2.Binds K fdS ["thing"] [] := FS.bindsN fun _ _ _ _ _ _ us hl => match us, hl with | [_], _ => rfl
  have bU : L2.Binds K fdU ["thing", "many"] [] := FU.bindsN fun _ _ _ _ _ _ us hl => match us, hl with | [_, _], _ => rfl
  have bW := binds_whole3 FW
  obtain ⟨tf, zf⟩ := Z.mf
  obtain ⟨tm, zm⟩ := Z.mm
  obtain ⟨tn, zn⟩ := Z.mn
  refine F.ok sc_entry (fun vs H Q E h => ?_) (fun cdv A outer s H vs Q E hr h => ?_)
  · obtain ⟨x, c, what, rfl, _⟩ := h
    rfl
  · obtain ⟨x, c, what, rfl, h, k⟩ := h
    -- what is asked of an entry of three, its parts at hand
    have parts : ∀ (H1 : Hp) (y b g m : V) (rb rm : Bool) (nb nm : Nat) (tg : String), UnlikeIs H1 b c rb nb → Ty0 H1 g tg → UnlikeIs H1 m 6 rm nm → (∀ H', Same H1 H' → Q (optV (entryWord rb rm (wholeB (.int 0) (.int 3) g) nm)) H') →
        (tSeq (tIfS (tNot (tB (tCall spUnlike [] E0 (tCons (tVar 2) (tCons (tVar 1) tNil))))) (tRet (tC (.str "base"))) tNext) (tSeq (tIfS (tNot (tB (tCall spWhole [] E0 (tCons (tVar 3) (tCons (tC (.int 0)) (tCons (tC (.int 3)) tNil)))))) (tRet (tC (.str "fields"))) tNext) (tSeq (tIfS (tOr (tNot (tB (tCall spUnlike [] E0 (tCons (tVar 4) (tCons (tC (.int 6)) tNil))))) (tTest (tOp (rI0 fun i j => .bl (decide (j < i))) (tCB (fun xs H Q => ∃ p ys, xs = [.ref p] ∧ (SqL K H p ys ∨ SqT K H p ys) ∧ Q (.int ys.length) H) (tCons (tVar 4) tNil)) (tC (.int 3))))) (tRet (tC (.str "method"))) tNext) (tRet (tC .non))))) { nx := fun _ H' => Q .non H', rt := Q } [some y, some (.int c), some b, some g, some m] H1 := by
      intro H1 y b g m rb rm nb nm tg hb hg hm k
      refine ⟨_, rfl, _, rfl, b, c, rb, nb, rfl, hb, fun H2 s2 => ⟨_, rfl, ?_⟩⟩
      cases rb with
      | false => exact iteT (k H2 s2)
      | true =>
        refine iteF ⟨_, rfl, g, _, _, tg, rfl, hg.same s2, .inr ⟨_, rfl⟩, .inr ⟨_, rfl⟩, _, rfl, ?_⟩
        cases hw : wholeB (.int 0) (.int 3) g with
        | false =>
          rw [hw] at k
          exact iteT (k H2 s2)
        | true =>
          rw [hw] at k
          refine iteF ⟨_, rfl, m, 6, rm, nm, rfl, hm.same s2, fun H3 s3 => ⟨_, rfl, ?_⟩⟩
          cases rm with
          | false => exact iteT (k H3 (s2.trans s3))
          | true =>
            refine iteF ?_
            rcases hm with ⟨t, ty, e1, e2⟩ | ⟨a, xs, rfl, hA, hl, hty, e1, e2⟩
            · cases e2
            · refine ⟨_, rfl, a, xs, rfl, ((hA.same s2).same s3).sq, _, _, rfl, rfl, _, rfl, ?_⟩
              have k3 := k H3 (s2.trans s3)
              by_cases q : (3 : Int) < (xs.length : Int)
              · have q' : 3 < nm := by omega
                unfold entryWord at k3
                rw [if_neg (by decide), if_neg (by decide), if_neg (by decide), if_pos q'] at k3
                rw [decide_eq_true q]
                exact iteT k3
              · have q' : ¬ 3 < nm := by omega
                unfold entryWord at k3
                rw [if_neg (by decide), if_neg (by decide), if_neg (by decide), if_neg q'] at k3
                rw [decide_eq_false q]
                exact iteF k3
    rcases h with ⟨t, ty, hs, e⟩ | ⟨a, xs, rfl, hA, hn, e⟩ | ⟨a, b, g, m, rb, nb, tg, rm, nm, rfl, hA, hb, hg, hm, e⟩
    · subst e
      refine ⟨_, PSs.nox (pss_cons (ps_if (PW.pt (pw_or (pt_not (pt_val (pe_call GS (hr.mono (by decide)) (by rfl) mS FS.kp bS .nil pass0 (pa_cons (pv 0) pa_nil)))) (pw_or1 (pt_cmpR op_ne (pe_callB call_len_seq (by rfl) B.len PySem.boot_len (pa_cons (pv 0) pa_nil)) pe_int (nomark _))))) (pss_one (ps_ret pe_str)) pss_nil)
        (pss_cons (ps_asg (pv 0) (pg_tup (by rfl) (pgs_cons (pg_name (i := 2) sc_entry.nd rfl (Or.inl rfl)) (pgs_cons (pg_name (i := 3) sc_entry.nd rfl (Or.inl rfl)) (pgs_cons (pg_name (i := 4) sc_entry.nd rfl (Or.inl rfl)) pgs_nil)))))
        (pss_cons (ps_if (pt_not (pt_val (pe_call GU hr (by rfl) mU FU.kp bU .nil pass0 (pa_cons (pv 2) (pa_cons (pv 1) pa_nil))))) (pss_one (ps_ret pe_str)) pss_nil)
        (pss_cons (ps_if (pt_not (pt_val (pe_call GW (hr.mono (by decide)) (by rfl) mW FW.kp bW .nil pass0 (pa_cons (pv 3) (pa_cons pe_int (pa_cons (pe_glob (v := .int 3) (by rfl) zf ⟨_, rfl⟩) pa_nil)))))) (pss_one (ps_ret pe_str)) pss_nil)
        (pss_cons (ps_if (PW.pt (pw_or (pt_not (pt_val (pe_call GU hr (by rfl) mU FU.kp bU .nil pass0 (pa_cons (pv 4) (pa_cons (pe_glob (v := .int 6) (by rfl) zn ⟨_, rfl⟩) pa_nil))))) (pw_or1 (pt_cmpR op_gt (pe_callB call_len_seq (by rfl) B.len PySem.boot_len (pa_cons (pv 4) pa_nil)) (pe_glob (v := .int 3) (by rfl) zm ⟨_, rfl⟩) (nomark _))))) (pss_one (ps_ret pe_str)) pss_nil)
        (pss_one (ps_ret pe_non))))))), ?_⟩
      refine ⟨_, rfl, x, t, rfl, ty, fun H1 s1 => ⟨_, rfl, ?_⟩⟩
      rw [hs]
      exact iteT (k H1 s1)
    · subst e
      obtain ⟨t, ty, hseq⟩ := hA.ty
      refine ⟨_, PSs.nox (pss_cons (ps_if (PW.pt (pw_or (pt_not (pt_val (pe_call GS (hr.mono (by decide)) (by rfl) mS FS.kp bS .nil pass0 (pa_cons (pv 0) pa_nil)))) (pw_or1 (pt_cmpR op_ne (pe_callB call_len_seq (by rfl) B.len PySem.boot_len (pa_cons (pv 0) pa_nil)) pe_int (nomark _))))) (pss_one (ps_ret pe_str)) pss_nil)
        (pss_cons (ps_asg (pv 0) (pg_tup (by rfl) (pgs_cons (pg_name (i := 2) sc_entry.nd rfl (Or.inl rfl)) (pgs_cons (pg_name (i := 3) sc_entry.nd rfl (Or.inl rfl)) (pgs_cons (pg_name (i := 4) sc_entry.nd rfl (Or.inl rfl)) pgs_nil)))))
        (pss_cons (ps_if (pt_not (pt_val (pe_call GU hr (by rfl) mU FU.kp bU .nil pass0 (pa_cons (pv 2) (pa_cons (pv 1) pa_nil))))) (pss_one (ps_ret pe_str)) pss_nil)
        (pss_cons (ps_if (pt_not (pt_val (pe_call GW (hr.mono (by decide)) (by rfl) mW FW.kp bW .nil pass0 (pa_cons (pv 3) (pa_cons pe_int (pa_cons (pe_glob (v := .int 3) (by rfl) zf ⟨_, rfl⟩) pa_nil)))))) (pss_one (ps_ret pe_str)) pss_nil)
        (pss_cons (ps_if (PW.pt (pw_or (pt_not (pt_val (pe_call GU hr (by rfl) mU FU.kp bU .nil pass0 (pa_cons (pv 4) (pa_cons (pe_glob (v := .int 6) (by rfl) zn ⟨_, rfl⟩) pa_nil))))) (pw_or1 (pt_cmpR op_gt (pe_callB call_len_seq (by rfl) B.len PySem.boot_len (pa_cons (pv 4) pa_nil)) (pe_glob (v := .int 3) (by rfl) zm ⟨_, rfl⟩) (nomark _))))) (pss_one (ps_ret pe_str)) pss_nil)
        (pss_one (ps_ret pe_non))))))), ?_⟩
      refine ⟨_, rfl, _, t, rfl, ty, fun H1 s1 => ⟨_, rfl, ?_⟩⟩
      rw [hseq]
      refine iteF ⟨_, rfl, a, xs, rfl, (hA.same s1).sq, rfl, _, rfl, ?_⟩
      have z : decide (V.int (xs.length : Int) = V.int 3) = false := decide_eq_false fun q => hn (by have := V.int.inj q; omega)
      rw [z]
      exact iteT (k H1 s1)
    · subst e
      obtain ⟨t, ty, hseq⟩ := hA.ty
      rcases hA with hA | hA
      · refine ⟨_, PSs.nox (pss_cons (ps_if (PW.pt (pw_or (pt_not (pt_val (pe_call GS (hr.mono (by decide)) (by rfl) mS FS.kp bS .nil pass0 (pa_cons (pv 0) pa_nil)))) (pw_or1 (pt_cmpR op_ne (pe_callB call_len_seq (by rfl) B.len PySem.boot_len (pa_cons (pv 0) pa_nil)) pe_int (nomark _))))) (pss_one (ps_ret pe_str)) pss_nil)
        (pss_cons (ps_asg (pv 0) (pg_unl (by rfl) (pgs_cons (pg_name (i := 2) sc_entry.nd rfl (Or.inl rfl)) (pgs_cons (pg_name (i := 3) sc_entry.nd rfl (Or.inl rfl)) (pgs_cons (pg_name (i := 4) sc_entry.nd rfl (Or.inl rfl)) pgs_nil)))))
        (pss_cons (ps_if (pt_not (pt_val (pe_call GU hr (by rfl) mU FU.kp bU .nil pass0 (pa_cons (pv 2) (pa_cons (pv 1) pa_nil))))) (pss_one (ps_ret pe_str)) pss_nil)
        (pss_cons (ps_if (pt_not (pt_val (pe_call GW (hr.mono (by decide)) (by rfl) mW FW.kp bW .nil pass0 (pa_cons (pv 3) (pa_cons pe_int (pa_cons (pe_glob (v := .int 3) (by rfl) zf ⟨_, rfl⟩) pa_nil)))))) (pss_one (ps_ret pe_str)) pss_nil)
        (pss_cons (ps_if (PW.pt (pw_or (pt_not (pt_val (pe_call GU hr (by rfl) mU FU.kp bU .nil pass0 (pa_cons (pv 4) (pa_cons (pe_glob (v := .int 6) (by rfl) zn ⟨_, rfl⟩) pa_nil))))) (pw_or1 (pt_cmpR op_gt (pe_callB call_len_seq (by rfl) B.len PySem.boot_len (pa_cons (pv 4) pa_nil)) (pe_glob (v := .int 3) (by rfl) zm ⟨_, rfl⟩) (nomark _))))) (pss_one (ps_ret pe_str)) pss_nil)
        (pss_one (ps_ret pe_non))))))), ?_⟩
        refine ⟨_, rfl, _, t, rfl, ty, fun H1 s1 => ⟨_, rfl, ?_⟩⟩
        rw [hseq]
        refine iteF ⟨_, rfl, a, _, rfl, .inl (SqL.of (s1 _ _ hA)), rfl, _, rfl, iteF ?_⟩
        refine ⟨_, rfl, a, _, rfl, SqL.of (s1 _ _ hA), rfl, _, _, rfl, _, _, rfl, _, _, rfl, rfl, ?_⟩
        exact parts H1 _ b g m rb rm nb nm tg (hb.same s1) (hg.same s1) (hm.same s1) fun H' s => k H' (s1.trans s)
      · refine ⟨_, PSs.nox (pss_cons (ps_if (PW.pt (pw_or (pt_not (pt_val (pe_call GS (hr.mono (by decide)) (by rfl) mS FS.kp bS .nil pass0 (pa_cons (pv 0) pa_nil)))) (pw_or1 (pt_cmpR op_ne (pe_callB call_len_seq (by rfl) B.len PySem.boot_len (pa_cons (pv 0) pa_nil)) pe_int (nomark _))))) (pss_one (ps_ret pe_str)) pss_nil)
        (pss_cons (ps_asg (pv 0) (pg_tup (by rfl) (pgs_cons (pg_name (i := 2) sc_entry.nd rfl (Or.inl rfl)) (pgs_cons (pg_name (i := 3) sc_entry.nd rfl (Or.inl rfl)) (pgs_cons (pg_name (i := 4) sc_entry.nd rfl (Or.inl rfl)) pgs_nil)))))
        (pss_cons (ps_if (pt_not (pt_val (pe_call GU hr (by rfl) mU FU.kp bU .nil pass0 (pa_cons (pv 2) (pa_cons (pv 1) pa_nil))))) (pss_one (ps_ret pe_str)) pss_nil)
        (pss_cons (ps_if (pt_not (pt_val (pe_call GW (hr.mono (by decide)) (by rfl) mW FW.kp bW .nil pass0 (pa_cons (pv 3) (pa_cons pe_int (pa_cons (pe_glob (v := .int 3) (by rfl) zf ⟨_, rfl⟩) pa_nil)))))) (pss_one (ps_ret pe_str)) pss_nil)
        (pss_cons (ps_if (PW.pt (pw_or (pt_not (pt_val (pe_call GU hr (by rfl) mU FU.kp bU .nil pass0 (pa_cons (pv 4) (pa_cons (pe_glob (v := .int 6) (by rfl) zn ⟨_, rfl⟩) pa_nil))))) (pw_or1 (pt_cmpR op_gt (pe_callB call_len_seq (by rfl) B.len PySem.boot_len (pa_cons (pv 4) pa_nil)) (pe_glob (v := .int 3) (by rfl) zm ⟨_, rfl⟩) (nomark _))))) (pss_one (ps_ret pe_str)) pss_nil)
        (pss_one (ps_ret pe_non))))))), ?_⟩
        refine ⟨_, rfl, _, t, rfl, ty, fun H1 s1 => ⟨_, rfl, ?_⟩⟩
        rw [hseq]
        refine iteF ⟨_, rfl, a, _, rfl, .inr (SqT.of (s1 _ _ hA)), rfl, _, rfl, iteF ?_⟩
        refine ⟨_, rfl, a, _, rfl, SqT.of (s1 _ _ hA), rfl, _, _, rfl, _, _, rfl, _, _, rfl, rfl, ?_⟩
        exact parts H1 _ b g m rb rm nb nm tg (hb.same s1) (hg.same s1) (hm.same s1) fun H' s => k H' (s1.trans s)
end
end K15

set_option maxRecDepth 100000
set_option maxHeartbeats 4000000
namespace K15
open PySem PySem.Spec PyProof.Rows L2 Kw
/-! ### elders, as plain lists -/
def isEld (rows : List (List Nat)) (row : List Nat) (e : Nat) : Bool := row.any fun b => e == b || (rows.getD b []).contains e
def elStep (rows : List (List Nat)) (row : List Nat) : List Nat := (List.range rows.length).filter (isEld rows row)
def elders (bs : List (List Nat)) : List (List Nat) := bs.foldl (fun rows row => rows ++ [elStep rows row]) []
def validB (bs : List (List Nat)) : Prop := ∀ (c : Nat) (row : List Nat), bs[c]? = some row → ∀ b ∈ row, b < c
theorem elders_more {bs : List (List Nat)} {i : Nat} {row : List Nat} (h : bs[i]? = some row) : elders (bs.take (i + 1)) = elders (bs.take i) ++ [elStep (elders (bs.take i)) row] := by
  unfold elders
  rw [List.take_add_one, h, Option.toList_some, List.foldl_append]
  rfl
theorem elders_len : ∀ (bs : List (List Nat)), (elders bs).length = bs.length := by
  intro bs
  have key : ∀ (bs : List (List Nat)) (acc : List (List Nat)), (bs.foldl (fun rows row => rows ++ [elStep rows row]) acc).length = acc.length + bs.length := by
    intro bs
    induction bs with
    | nil => intro acc; rfl
    | cons b r ih =>
      intro acc
      rw [List.foldl_cons, ih, List.length_append]
      simp only [List.length_cons, List.length_nil]
      omega
  have z := key bs []
  rw [List.length_nil, Nat.zero_add] at z
  exact z
theorem elStep_lt {rows : List (List Nat)} {row : List Nat} {e : Nat} (h : e ∈ elStep rows row) : e < rows.length := List.mem_range.mp (List.mem_filter.mp h).1
/-- every elder of an elder row lies below -/
theorem elders_lt : ∀ (bs : List (List Nat)) (c : Nat) (l : List Nat), (elders bs)[c]? = some l → ∀ e ∈ l, e < c := by
  intro bs
  have key : ∀ (bs : List (List Nat)) (acc : List (List Nat)), (∀ (c : Nat) (l : List Nat), acc[c]? = some l → ∀ e ∈ l, e < c) → ∀ (c : Nat) (l : List Nat), (bs.foldl (fun rows row => rows ++ [elStep rows row]) acc)[c]? = some l → ∀ e ∈ l, e < c := by
    intro bs
    induction bs with
    | nil => intro acc h; exact h
    | cons b r ih =>
      intro acc h
      rw [List.foldl_cons]
      refine ih _ fun c l hc e he => ?_
      by_cases q : c < acc.length
      · rw [List.getElem?_append_left q] at hc
        exact h c l hc e he
      · rw [List.getElem?_append_right (by omega)] at hc
        by_cases q2 : c - acc.length = 0
        · rw [q2] at hc
          have e1 : elStep acc b = l := Option.some.inj hc
          rw [← e1] at he
          have := elStep_lt he
          omega
        · rw [List.getElem?_eq_none (by rw [List.length_singleton]; omega)] at hc
          cases hc
  exact key bs [] fun c l h => by simp at h
/-! ### keys of a dict, as they are put in -/
def addN (ks : List Nat) (e : Nat) : List Nat := if e ∈ ks then ks else ks ++ [e]
def KeysAre (kvs : List (Key × V)) (ks : List Nat) : Prop := kvs.map (·.1) = ks.map fun (n : Nat) => (Sum.inl (n : Int) : Key)
theorem mem_addN {ks : List Nat} {e x : Nat} : x ∈ addN ks e ↔ x ∈ ks ∨ x = e := by
  unfold addN
  by_cases h : e ∈ ks
  · rw [if_pos h]
    exact ⟨.inl, fun q => q.elim id fun z => z ▸ h⟩
  · rw [if_neg h, List.mem_append, List.mem_singleton]
theorem nodup_addN {ks : List Nat} {e : Nat} (h : ks.Nodup) : (addN ks e).Nodup := by
  unfold addN
  by_cases q : e ∈ ks
  · rw [if_pos q]
    exact h
  · rw [if_neg q]
    refine List.nodup_append.mpr ⟨h, by simp, fun a ha b hb z => q ?_⟩
    rw [List.mem_singleton.mp hb] at z
    exact z ▸ ha
theorem len_addN {ks : List Nat} {e : Nat} : (addN ks e).length ≤ ks.length + 1 := by
  unfold addN
  split
  · omega
  · rw [List.length_append, List.length_singleton]; omega
theorem keys_put {kvs : List (Key × V)} {ks : List Nat} {e : Nat} {v : V} (h : KeysAre kvs ks) : KeysAre (putK kvs (Sum.inl (e : Int)) v) (addN ks e) := by
  have hm : ∀ n : Nat, (Sum.inl (n : Int) : Key) ∈ kvs.map (·.1) ↔ n ∈ ks := fun n => by
    rw [h, List.mem_map]
    constructor
    · rintro ⟨k, hk, e⟩
      have z : (k : Int) = (n : Int) := Sum.inl.inj e
      have z2 : k = n := by omega
      subst z2
      exact hk
    · exact fun hk => ⟨n, hk, rfl⟩
  unfold putK addN
  by_cases q : e ∈ ks
  · have a : (kvs.any fun kv => decide (kv.1 = (Sum.inl (e : Int) : Key))) = true := by
      obtain ⟨kv, h1, h2⟩ := List.mem_map.mp ((hm e).mpr q)
      exact List.any_eq_true.mpr ⟨kv, h1, decide_eq_true h2⟩
    rw [if_pos a, if_pos q]
    unfold KeysAre
    rw [List.map_map, ← h]
    refine List.map_congr_left fun kv _ => ?_
    show (if kv.1 = Sum.inl (e : Int) then (kv.1, v) else kv).1 = kv.1
    split <;> rfl
  · have a : ¬ (kvs.any fun kv => decide (kv.1 = (Sum.inl (e : Int) : Key))) = true := fun z => by
      obtain ⟨kv, h1, h2⟩ := List.any_eq_true.mp z
      exact q ((hm e).mp (List.mem_map.mpr ⟨kv, h1, of_decide_eq_true h2⟩))
    rw [if_neg a, if_neg q]
    unfold KeysAre
    rw [List.map_append, List.map_append, h]
    rfl
/-! ### a list of tuples of numbers -/
def natV (n : Nat) : V := V.int (n : Int)
def TupsAt (H : Hp) : List V → List (List Nat) → Prop := Paired fun v l => ∃ t, v = .ref t ∧ H t = some (.tup (l.map natV))
theorem TupsAt.mono {H H' : Hp} (k : ∀ b xs, H b = some (.tup xs) → H' b = some (.tup xs)) : ∀ {vs : List V} {ls : List (List Nat)}, TupsAt H vs ls → TupsAt H' vs ls
  | [], [], _ => .nil
  | _ :: _, _ :: _, .cons ⟨t, e, h⟩ r => .cons ⟨t, e, k _ _ h⟩ (TupsAt.mono k r)
theorem TupsAt.same {H H' : Hp} {vs : List V} {ls : List (List Nat)} (h : TupsAt H vs ls) (s : Same H H') : TupsAt H' vs ls := h.mono fun b xs e => s b _ e
theorem TupsAt.len {H : Hp} {vs : List V} {ls : List (List Nat)} (h : TupsAt H vs ls) : vs.length = ls.length := Paired.length h
theorem TupsAt.get {H : Hp} : ∀ {vs : List V} {ls : List (List Nat)} {i : Nat} {l : List Nat}, TupsAt H vs ls → ls[i]? = some l → ∃ t, vs[i]? = some (.ref t) ∧ H t = some (.tup (l.map natV))
  | [], [], _, _, _, h => by simp at h
  | _ :: _, _ :: _, 0, _, .cons ⟨t, e1, h⟩ _, e => by
    obtain rfl := Option.some.inj e
    exact ⟨t, by rw [e1]; rfl, h⟩
  | _ :: _, _ :: _, i + 1, _, .cons _ r, e => TupsAt.get (i := i) r e
theorem TupsAt.app {H : Hp} : ∀ {vs us : List V} {ls ms : List (List Nat)}, TupsAt H vs ls → TupsAt H us ms → TupsAt H (vs ++ us) (ls ++ ms)
  | [], _, [], _, _, h => h
  | _ :: _, _, _ :: _, _, .cons h r, s => .cons h (TupsAt.app r s)
/-- a list's or a dict's place written: tuples stand -/
theorem tups_upd {H : Hp} {a : Addr} {o u : HO} (ha : H a = some o) (hn : ∀ xs, o ≠ .tup xs) : ∀ b xs, H b = some (.tup xs) → upd H a u b = some (.tup xs) := fun b xs e => by
  have ne : b ≠ a := fun z => by
    rw [z, ha] at e
    exact hn xs (Option.some.inj e)
  rw [upd_ne ne]
  exact e
theorem sorted_one {ys : List Int} {a b : List Nat} (p : ys.Perm (a.map fun (n : Nat) => (n : Int))) (hs : ys.Pairwise (· ≤ ·)) (ha : a.Nodup) (hb : b.Nodup) (hm : ∀ x, x ∈ a ↔ x ∈ b) (hbs : b.Pairwise (· < ·)) : ys.map V.int = b.map natV := by
  have p2 : ys.Perm (b.map fun (n : Nat) => (n : Int)) := p.trans (((List.perm_ext_iff_of_nodup ha hb).mpr hm).map _)
  have hb2 : (b.map fun (n : Nat) => (n : Int)).Pairwise (· ≤ ·) := List.pairwise_map.mpr (hbs.imp fun h => by omega)
  have e : ys = b.map fun (n : Nat) => (n : Int) := p2.eq_of_pairwise (fun x y _ _ h1 h2 => Int.le_antisymm h1 h2) hs hb2
  rw [e, List.map_map]
  rfl
end K15

set_option maxRecDepth 100000
set_option maxHeartbeats 4000000
namespace K15
open PySem PySem.Spec PyProof.Rows L2 Kw
theorem same_upd {H0 H1 : Hp} {p : Addr} {o : HO} (s : Same H0 H1) (hp : H0 p = none) : Same H0 (upd H1 p o) := fun b u e => by
  rw [upd_ne (ne_of_none e hp)]
  exact s b u e
/-- a dict that holds just these numbers as keys -/
def DictHas (H : Hp) (p : Addr) (P : Nat → Prop) (n : Nat) : Prop := ∃ kvs ks, H p = some (.dK kvs) ∧ KeysAre kvs ks ∧ ks.Nodup ∧ ks.length ≤ n ∧ kvs.length ≤ n ∧ ∀ x, x ∈ ks ↔ P x
theorem DictHas.put {H : Hp} {p : Addr} {P : Nat → Prop} {n e : Nat} {v : V} (h : DictHas H p P n) (hn : n < sizeLine) : ∃ H', DPut H p (.int (e : Int)) v H' ∧ (∃ o, H' = upd H p o) ∧ DictHas H' p (fun x => P x ∨ x = e) (n + 1) := by
  obtain ⟨kvs, ks, h1, h2, h3, h4, h5, h6⟩ := h
  refine ⟨_, DPut.k (k := Sum.inl (e : Int)) h1 (by omega), ⟨_, rfl⟩, _, addN ks e, upd_same, keys_put h2, nodup_addN h3, Nat.le_trans len_addN (by omega), Nat.le_trans (length_putK _ _ _) (by omega), fun x => ?_⟩
  rw [mem_addN, h6]
theorem DictHas.iff {H : Hp} {p : Addr} {P P' : Nat → Prop} {n : Nat} (h : DictHas H p P n) (k : ∀ x, P x ↔ P' x) : DictHas H p P' n := by
  obtain ⟨kvs, ks, h1, h2, h3, h4, h5, h6⟩ := h
  exact ⟨kvs, ks, h1, h2, h3, h4, h5, fun x => (h6 x).trans (k x)⟩
theorem DictHas.le {H : Hp} {p : Addr} {P : Nat → Prop} {n m : Nat} (h : DictHas H p P n) (k : n ≤ m) : DictHas H p P m := by
  obtain ⟨kvs, ks, h1, h2, h3, h4, h5, h6⟩ := h
  exact ⟨kvs, ks, h1, h2, h3, by omega, by omega, h6⟩
theorem elStep_mem {rows : List (List Nat)} {row : List Nat} (hlt : ∀ b ∈ row, b < rows.length) (hr : ∀ (c : Nat) (l : List Nat), rows[c]? = some l → ∀ e ∈ l, e < c) (x : Nat) : x ∈ elStep rows row ↔ ∃ b ∈ row, x = b ∨ x ∈ rows.getD b [] := by
  unfold elStep isEld
  rw [List.mem_filter, List.mem_range, List.any_eq_true]
  constructor
  · rintro ⟨_, b, hb, h⟩
    refine ⟨b, hb, ?_⟩
    rw [Bool.or_eq_true] at h
    exact h.imp (fun h => by simpa using h) fun h => by simpa using h
  · rintro ⟨b, hb, h⟩
    have hbl := hlt b hb
    refine ⟨?_, b, hb, ?_⟩
    · rcases h with h | h
      · omega
      · have e : rows[b]? = some (rows.getD b []) := by
          rw [List.getElem?_eq_getElem hbl, List.getD_eq_getElem?_getD, List.getElem?_eq_getElem hbl]
          rfl
        have := hr b _ e x h
        omega
    · rw [Bool.or_eq_true]
      exact h.imp (fun h => by simpa using h) fun h => by simpa using h
theorem elStep_up (rows : List (List Nat)) (row : List Nat) : (elStep rows row).Pairwise (· < ·) := List.Pairwise.filter _ List.pairwise_lt_range
theorem elStep_len (rows : List (List Nat)) (row : List Nat) : (elStep rows row).length ≤ rows.length := by
  have := List.length_filter_le (isEld rows row) (List.range rows.length)
  rw [List.length_range] at this
  exact this
theorem up_nodup {l : List Nat} (h : l.Pairwise (· < ·)) : l.Nodup := h.imp fun h => Nat.ne_of_lt h
theorem elders_len_row : ∀ (bs : List (List Nat)) (c : Nat) (l : List Nat), (elders bs)[c]? = some l → l.length ≤ bs.length := by
  intro bs
  have key : ∀ (bs : List (List Nat)) (acc : List (List Nat)), (∀ l ∈ acc, l.length ≤ acc.length) → ∀ l ∈ bs.foldl (fun rows row => rows ++ [elStep rows row]) acc, l.length ≤ acc.length + bs.length := by
    intro bs
    induction bs with
    | nil => intro acc h l hl; exact Nat.le_trans (h l hl) (Nat.le_add_right _ _)
    | cons b r ih =>
      intro acc h l hl
      rw [List.foldl_cons] at hl
      have hlen : (acc ++ [elStep acc b]).length = acc.length + 1 := by rw [List.length_append]; rfl
      have := ih (acc ++ [elStep acc b]) (fun l hl => by
        rw [hlen]
        rcases List.mem_append.mp hl with hl | hl
        · exact Nat.le_succ_of_le (h l hl)
        · rw [List.mem_singleton.mp hl]
          exact Nat.le_succ_of_le (elStep_len _ _)) l hl
      rw [hlen] at this
      rw [List.length_cons]
      omega
  intro c l h
  have := key bs [] (fun l hl => by cases hl) l (List.mem_of_getElem? h)
  rw [List.length_nil, Nat.zero_add] at this
  exact this
section
variable {P : Program} {w : World} {K : PySem.W.Frag} {mg : Str → Option Value} {base : Heap} {f : Addr} {fd : FuncData}
def spElders : Sp := fun vs H Q _ => ∃ (a : Addr) (ws : List V) (bs : List (List Nat)), vs = [.ref a] ∧ H a = some (.tup ws) ∧ TupsAt H ws bs ∧ validB bs ∧ bs.length ≤ 12 ∧ (∀ row ∈ bs, row.length ≤ 12) ∧
  ∀ H' p us, Same H H' → H' p = some (.tup us) → TupsAt H' us (elders bs) → Q (.ref p) H'
theorem sc_elders : FnScope ["bases", "rows", "row", "found", "base", "elder"] ["bases"] (defScope (top 32)) := ⟨rfl, rfl, rfl, by decide +kernel, rfl, by decide +kernel, by decide +kernel⟩
theorem ok_elders (F : FnP K "elder_rows" 32 f fd) (B : Fr mg) : FnOk P w K mg base CX0 1 f fd ["bases"] spElders := by
  refine F.ok sc_elders (fun vs H Q E h => ?_) (fun cdv A outer s H vs Q E hr h => ?_)
  · obtain ⟨a, ws, bs, rfl, _⟩ := h
    rfl
  · obtain ⟨a, ws, bs, rfl, hA, hT, hv, h12, hr12, k⟩ := h
    refine ⟨_, PSs.nox (pss_cons (ps_set (i := 1) sc_elders.nd rfl (Or.inl rfl) (pe_lst pa_nil))
      (pss_cons (ps_for PassesOwn.never rfl (pi_tup (pv 0)) (pg_name (i := 2) sc_elders.nd rfl (Or.inl rfl))
        (pss_cons (ps_set (i := 3) sc_elders.nd rfl (Or.inl rfl) pe_dnewK)
        (pss_cons (ps_for PassesOwn.never rfl (pi_tup (pv 2)) (pg_name (i := 4) sc_elders.nd rfl (Or.inl rfl))
          (pss_cons (ps_dput (hu_of hr) (pv 3) (pv 4) pe_bl rfl)
          (pss_one (ps_for PassesOwn.never rfl (pi_tup (pe_ix ix_list (pv 1) (pv 4) (fun _ _ => rfl))) (pg_name (i := 5) sc_elders.nd rfl (Or.inl rfl))
            (pss_one (ps_dput (hu_of hr) (pv 3) (pv 5) pe_bl rfl))))))
        (pss_one (ps_expr (pe_bm PySem.F.plainAttrs_list PySem.F.slot_list_append PySem.F.type_list_append mt_append (pv 1) (pa_cons (pe_callTy call_tuple_of (by rfl) B.tuple (by decide +kernel) (pa_cons (pe_callB (Kw.call_sortedDI rfl) (by rfl) B.sorted (by decide +kernel) (pa_cons (pv 3) pa_nil)) pa_nil)) pa_nil)))))))
      (pss_one (ps_ret (pe_callTy call_tuple_of (by rfl) B.tuple (by decide +kernel) (pa_cons (pv 1) pa_nil)))))), ?_⟩
    refine ⟨by decide, fun R hR => ?_⟩
    refine ⟨_, rfl, a, rfl, ⟨_, SqT.of (same_new hR _ _ hA)⟩, for_tup (K := K) (a := a) (xs := ws) (fun i σ H' => Same H H' ∧ ∃ us x y z u, σ = [some (.ref a), some (.ref R), x, y, z, u] ∧ H' R = some (.lst us) ∧ TupsAt H' us (elders (bs.take i)))
      ⟨same_new hR, [], none, none, none, none, rfl, upd_same, .nil⟩ (fun i σ H' _ h => SqT.of (h.1 _ _ hA)) ?_ ?_⟩
    · rintro i y σ H' hi ⟨sH, us, x0, y0, z0, u0, rfl, hRu, hU⟩
      have hbl : ws.length = bs.length := hT.len
      have hil : i < bs.length := by
        rw [← hbl]
        exact (List.getElem?_eq_some_iff.mp hi).1
      obtain ⟨row, hrow⟩ : ∃ row, bs[i]? = some row := ⟨_, List.getElem?_eq_getElem hil⟩
      obtain ⟨t, et, ht⟩ := hT.get hrow
      obtain rfl : V.ref t = y := Option.some.inj (et.symm.trans hi)
      have hE : (elders (bs.take i)).length = i := by rw [elders_len, List.length_take, Nat.min_eq_left (Nat.le_of_lt hil)]
      have hlt : ∀ b ∈ row, b < i := hv i row hrow
      have hrl : row.length ≤ 12 := hr12 row (List.mem_of_getElem? hrow)
      have hus : us.length = i := hU.len.trans hE
      refine fun p hp => ?_
      have sp : Same H' (upd H' p (.dK [])) := same_new hp
      refine ⟨_, rfl, t, rfl, ⟨_, SqT.of (sp _ _ (sH _ _ ht))⟩, for_tup (K := K) (a := t) (xs := row.map natV) (fun j σ H2 => Same H' H2 ∧ ∃ z u, σ = [some (.ref a), some (.ref R), some (.ref t), some (.ref p), z, u] ∧ DictHas H2 p (fun x => ∃ b ∈ row.take j, x = b ∨ x ∈ (elders (bs.take i)).getD b []) (j * 14))
        ⟨sp, z0, u0, rfl, [], [], upd_same, rfl, List.nodup_nil, Nat.zero_le _, Nat.zero_le _, fun x => by simp⟩ (fun j σ H2 _ h => SqT.of (h.1 _ _ (sH _ _ ht))) ?_ ?_⟩
      · rintro j y σ H2 hj ⟨s2, z1, u1, rfl, hD⟩
        rw [List.getElem?_map] at hj
        obtain ⟨b, hb, rfl⟩ := Option.map_eq_some_iff.mp hj
        have hjl : j < row.length := (List.getElem?_eq_some_iff.mp hb).1
        have hbi : b < i := hlt b (List.mem_of_getElem? hb)
        obtain ⟨H3, hput, ⟨o3, e3⟩, hD3⟩ := hD.put (e := b) (v := .bl true) (by show j * 14 < 2 ^ 24; omega)
        have s3 : Same H' H3 := by
          rw [e3]
          exact same_upd s2 hp
        refine ⟨_, rfl, _, rfl, p, H3, rfl, hput, ?_⟩
        obtain ⟨l, hl⟩ : ∃ l, (elders (bs.take i))[b]? = some l := ⟨_, List.getElem?_eq_getElem (by rw [hE]; exact hbi)⟩
        have hgd : (elders (bs.take i)).getD b [] = l := by
          rw [List.getD_eq_getElem?_getD, hl]
          rfl
        have hll : l.length ≤ 12 := by
          have := elders_len_row _ _ _ hl
          rw [List.length_take] at this
          omega
        obtain ⟨q, eq, hq⟩ := hU.get hl
        refine ⟨_, rfl, _, rfl, R, us, _, _, rfl, rfl, SqL.of (s3 _ _ hRu), atI_nat eq, q, rfl, ⟨_, SqT.of (s3 _ _ hq)⟩, for_tup (K := K) (a := q) (xs := l.map natV) (fun m σ H4 => Same H' H4 ∧ ∃ u, σ = [some (.ref a), some (.ref R), some (.ref t), some (.ref p), some (natV b), u] ∧ DictHas H4 p (fun x => ((∃ b ∈ row.take j, x = b ∨ x ∈ (elders (bs.take i)).getD b []) ∨ x = b) ∨ x ∈ l.take m) (j * 14 + 1 + m))
          ⟨s3, u1, rfl, hD3.iff fun x => by simp⟩ (fun m σ H4 _ h => SqT.of (h.1 _ _ hq)) ?_ ?_⟩
        · rintro m y σ H4 hm ⟨s4, u2, rfl, hD4⟩
          rw [List.getElem?_map] at hm
          obtain ⟨e, he, rfl⟩ := Option.map_eq_some_iff.mp hm
          have hml : m < l.length := (List.getElem?_eq_some_iff.mp he).1
          obtain ⟨H5, hput5, ⟨o5, e5⟩, hD5⟩ := hD4.put (e := e) (v := .bl true) (by show j * 14 + 1 + m < 2 ^ 24; omega)
          refine ⟨_, rfl, _, rfl, p, H5, rfl, hput5, by rw [e5]; exact same_upd s4 hp, _, rfl, hD5.iff fun x => ?_⟩
          rw [List.take_add_one, he, Option.toList_some, List.mem_append, List.mem_singleton, or_assoc]
        · rintro σ H4 ⟨s4, u2, rfl, hD4⟩
          rw [List.length_map] at hD4
          refine ⟨s4, _, _, rfl, (hD4.iff fun x => ?_).le (by omega)⟩
          rw [List.take_add_one, hb, Option.toList_some, List.take_length]
          constructor
          · rintro ((⟨c, hc, h⟩ | h) | h)
            · exact ⟨c, List.mem_append_left _ hc, h⟩
            · exact ⟨b, List.mem_append_right _ (List.mem_singleton.mpr rfl), .inl h⟩
            · exact ⟨b, List.mem_append_right _ (List.mem_singleton.mpr rfl), .inr (by rw [hgd]; exact h)⟩
          · rintro ⟨c, hc, h⟩
            rcases List.mem_append.mp hc with hc | hc
            · exact .inl (.inl ⟨c, hc, h⟩)
            · obtain rfl := List.mem_singleton.mp hc
              rcases h with h | h
              · exact .inl (.inr h)
              · rw [hgd] at h
                exact .inr h
      · rintro σ H2 ⟨s2, z1, u1, rfl, kvs, ks, h1, h2, h3, h4, h5, h6⟩
        rw [List.length_map, List.take_length] at h6
        rw [List.length_map] at h4
        refine ⟨_, rfl, .inl ⟨rfl, _, SqL.of (s2 _ _ hRu)⟩, _, rfl, p, kvs, ks.map fun (n : Nat) => (n : Int), rfl, .inl h1, ?_, ?_, fun ys L perm srt hL => ?_⟩
        · rw [h2, List.map_map]
          rfl
        · rw [List.length_map]
          omega
        · have sL : Same H2 (upd H2 L (.lst (ys.map V.int))) := same_new hL
          refine ⟨L, ys.map V.int, rfl, .inl ⟨SqL.of upd_same, fun T hT' => ?_⟩⟩
          have sT : Same (upd H2 L (.lst (ys.map V.int))) (upd (upd H2 L (.lst (ys.map V.int))) T (.tup (ys.map V.int))) := same_new hT'
          have sAll := (s2.trans sL).trans sT
          have eys : ys.map V.int = (elStep (elders (bs.take i)) row).map natV := sorted_one perm srt h3 (up_nodup (elStep_up _ _)) (fun x => (h6 x).trans (elStep_mem (fun b hb => by rw [hE]; exact hlt b hb) (elders_lt _) x).symm) (elStep_up _ _)
          refine ⟨R, us, _, rfl, rfl, sAll _ _ hRu, by rw [hus]; show i < 2 ^ 24; omega, same_upd ((sH.trans s2).trans (sL.trans sT)) hR, us ++ [.ref T], _, _, _, _, rfl, upd_same, ?_⟩
          have keep : ∀ b xs, upd (upd H2 L (.lst (ys.map V.int))) T (.tup (ys.map V.int)) b = some (.tup xs) → upd (upd (upd H2 L (.lst (ys.map V.int))) T (.tup (ys.map V.int))) R (.lst (us ++ [.ref T])) b = some (.tup xs) := tups_upd (sAll _ _ hRu) fun xs z => by cases z
          rw [elders_more hrow]
          refine ((hU.same sAll).mono keep).app (.cons ⟨T, rfl, ?_⟩ .nil)
          rw [← eys]
          exact keep _ _ upd_same
    · rintro σ H' ⟨sH, us, x0, y0, z0, u0, rfl, hRu, hU⟩
      have hbl : ws.length = bs.length := hT.len
      rw [hbl, List.take_length] at hU
      refine ⟨_, rfl, R, us, rfl, .inl ⟨SqL.of hRu, fun p hp => ?_⟩⟩
      exact k _ p us (sH.trans (same_new hp)) upd_same (hU.same (same_new hp))
end
end K15

set_option maxRecDepth 100000
set_option maxHeartbeats 4000000
namespace K15
open PySem PySem.Spec PyProof.Rows L2 Kw
def heirRow (es : List (List Nat)) (n c : Nat) : List Nat := (List.range n).filter fun h => (es.getD h []).contains c
def heirs (es : List (List Nat)) : List (List Nat) := (List.range es.length).map (heirRow es es.length)
theorem inV_nat (c : Nat) : ∀ l : List Nat, inV (natV c) (l.map natV) = l.contains c
  | [] => rfl
  | x :: r => by
    unfold inV
    rw [List.map_cons, List.any_cons, List.contains_cons]
    have ih := inV_nat c r
    unfold inV at ih
    rw [ih]
    congr 1
    show ((x : Int) == (c : Int)) = (c == x)
    rw [Bool.eq_iff_iff, beq_iff_eq, beq_iff_eq]
    omega
theorem flat_nats : ∀ l : List Nat, (l.map natV).all flatV = true
  | [] => rfl
  | _ :: r => by
    rw [List.map_cons, List.all_cons, flat_nats r]
    rfl
theorem heirRow_more (es : List (List Nat)) (n c i : Nat) (hi : i < n) : ((List.range n).take (i + 1)).filter (fun h => (es.getD h []).contains c) = ((List.range n).take i).filter (fun h => (es.getD h []).contains c) ++ (if (es.getD i []).contains c then [i] else []) := by
  rw [List.take_add_one, List.filter_append, List.getElem?_range hi, Option.toList_some]
  congr 1
  cases h : (es.getD i []).contains c with
  | true => rw [List.filter_cons_of_pos (by exact h)]; rfl
  | false => rw [List.filter_cons_of_neg (by show ¬ (es.getD i []).contains c = true; rw [h]; decide)]; rfl
/-- tuple(xs) -/
structure rTupOf (K : PySem.W.Frag) (xs : List V) (H : Hp) (Q : VK) : Prop where
  h : ∃ p ys, xs = [.ref p] ∧ ((SqL K H p ys ∧ ∀ l, H l = none → Q (.ref l) (upd H l (.tup ys))) ∨ (SqT K H p ys ∧ Q (.ref p) H))
theorem call_tup {X : Cx} : CallR X (.type "tuple") (rTupOf X.K) := fun pins s σ H vs us Q I r h => call_tuple_of pins s σ H vs us Q I r h.h
section
variable {P : Program} {w : World} {K : PySem.W.Frag} {mg : Str → Option Value} {base : Heap} {f : Addr} {fd : FuncData}
def spHeirs : Sp := fun vs H Q _ => ∃ (a : Addr) (ws : List V) (es : List (List Nat)), vs = [.ref a] ∧ H a = some (.tup ws) ∧ TupsAt H ws es ∧ es.length ≤ 12 ∧ ∀ H' p us, Same H H' → H' p = some (.tup us) → TupsAt H' us (heirs es) → Q (.ref p) H'
theorem sc_heirs : FnScope ["elders", "many", "c", "heir"] ["elders"] (defScope (top 33)) := ⟨rfl, rfl, rfl, by decide +kernel, rfl, by decide +kernel, by decide +kernel⟩
theorem ok_heirs (F : FnP K "heir_rows" 33 f fd) (B : Fr mg) : FnOk P w K mg base CX0 1 f fd ["elders"] spHeirs := by
  refine F.ok sc_heirs (fun vs H Q E h => ?_) (fun cdv A outer s H vs Q E hr h => ?_)
  · obtain ⟨a, ws, es, rfl, _⟩ := h
    rfl
  · obtain ⟨a, ws, es, rfl, hA, hT, h12, k⟩ := h
    refine ⟨_, PSs.nox (pss_cons (ps_set (i := 1) sc_heirs.nd rfl (Or.inr rfl) (pe_callB call_len_seq (by rfl) B.len PySem.boot_len (pa_cons (pv 0) pa_nil)))
      (pss_one (ps_ret (pe_callTy call_tuple_of (by rfl) B.tuple (by decide +kernel) (pa_cons
        (pe_lc (own := [("c", 2)]) (g := gName 2) (tt := tYes) rfl sc_heirs.nd (pi_range1 (by rfl) B.range (pa_cons (pv 1) pa_nil)) (blkOk_by (N := ["elders", "many", "c", "heir"]) (sc := defScope (top 33)) (by decide +kernel))
          (fun _ _ _ _ _ => pg_name (i := 2) sc_heirs.nd rfl (Or.inr rfl)) (fun _ _ _ _ _ => pts_nil)
          (fun _ _ _ _ _ => pe_callTy (T := "tuple") (r := rTupOf K) (call_tup (X := _)) (by rfl) B.tuple (by decide +kernel) (pa_cons
            (pe_lc (own := [("heir", 3)]) (g := gName 3) rfl sc_heirs.nd (pi_range1 (by rfl) B.range (pa_cons (pv 1) pa_nil)) (blkOk_by (by rfl))
              (fun _ _ _ _ _ => pg_name (i := 3) sc_heirs.nd rfl (Or.inl rfl)) (fun _ _ _ _ _ => pts_one (pt_cmpR (r := rIn K false) op_in_seq (pv 2) (pe_ix (r := rIxT K) ix_tup (pv 0) (pv 3) (fun _ _ => rfl)) (by rfl)))
              (fun _ _ _ _ _ => pv 3)) pa_nil))) pa_nil))))), ?_⟩
    have hbl : ws.length = es.length := hT.len
    refine ⟨_, rfl, a, ws, rfl, .inr (SqT.of hA), ?_⟩
    refine ⟨_, rfl, _, rfl, by omega, by omega, fun D hD => lc_range (n := ws.length) (fun i H2 => Same H H2 ∧ ∃ us, H2 D = some (.lst us) ∧ TupsAt H2 us ((heirs es).take i))
      ⟨same_new hD, [], upd_same, .nil⟩ ?_ ?_⟩
    · rintro i H2 hi ⟨s2, us, hDu, hU⟩
      have hlen : (heirs es).length = ws.length := by
        unfold heirs
        rw [List.length_map, List.length_range, hbl]
      have hrow : (heirs es)[i]? = some (heirRow es ws.length i) := by
        unfold heirs
        rw [List.getElem?_map, List.getElem?_range (by omega), hbl]
        rfl
      have husl : us.length = i := by
        rw [hU.len, List.length_take, hlen]
        omega
      refine ⟨rfl, _, rfl, _, rfl, by omega, by omega, fun D2 hD2 => lc_range (n := ws.length) (fun j H3 => Same H2 H3 ∧ H3 D2 = some (.lst ((((List.range ws.length).take j).filter fun h => (es.getD h []).contains i).map natV)))
        ⟨same_new hD2, upd_same⟩ ?_ ?_⟩
      · rintro j H3 hj ⟨s3, hD3⟩
        obtain ⟨l, hl⟩ : ∃ l, es[j]? = some l := ⟨_, List.getElem?_eq_getElem (by omega)⟩
        have hgd : es.getD j [] = l := by
          rw [List.getD_eq_getElem?_getD, hl]
          rfl
        obtain ⟨t, et, ht⟩ := hT.get hl
        have e0 : (0 : Int) + (i : Int) = (i : Int) := Int.zero_add _
        refine ⟨rfl, _, rfl, _, rfl, _, rfl, a, ws, (0 : Int) + (j : Int), _, rfl, rfl, SqT.of (s3 _ _ (s2 _ _ hA)), by rw [Int.zero_add]; exact atI_nat et, t, _, rfl, .inr (SqT.of (s3 _ _ (s2 _ _ ht))), rfl, flat_nats l, _, rfl, ?_⟩
        have ein : inV (.int ((0 : Int) + (i : Int))) (l.map natV) = l.contains i := by
          rw [e0]
          exact inV_nat i l
        show (if inV (.int ((0 : Int) + (i : Int))) (l.map natV) = true then _ else _)
        rw [ein]
        have hm := heirRow_more es ws.length i j hj
        rw [hgd] at hm
        cases hb : l.contains i with
        | true =>
          rw [hb, if_pos rfl] at hm
          rw [if_pos rfl]
          refine ⟨_, rfl, _, hD3, ?_, same_upd s3 hD2, ?_⟩
          · rw [List.length_map]
            refine Nat.lt_of_le_of_lt (List.length_filter_le _ _) ?_
            rw [List.length_take]
            show _ < 2 ^ 24
            omega
          · rw [hm, List.map_append, upd_same, Int.zero_add]
            rfl
        | false =>
          rw [hb, if_neg (by decide), List.append_nil] at hm
          rw [if_neg (by decide)]
          exact ⟨s3, by rw [hm]; exact hD3⟩
      · rintro H3 ⟨s3, hD3⟩
        rw [List.take_of_length_le (by rw [List.length_range]; exact Nat.le_refl _)] at hD3
        refine ⟨D2, _, rfl, .inl ⟨SqL.of hD3, fun T hT' => ?_⟩⟩
        have sT := s3.trans (same_new (o := .tup ((heirRow es ws.length i).map natV)) hT')
        refine ⟨us, sT _ _ hDu, by rw [husl]; show i < 2 ^ 24; omega, same_upd (s2.trans sT) hD, us ++ [.ref T], upd_same, ?_⟩
        have keep : ∀ b xs, upd H3 T (.tup ((heirRow es ws.length i).map natV)) b = some (.tup xs) → upd (upd H3 T (.tup ((heirRow es ws.length i).map natV))) D (.lst (us ++ [.ref T])) b = some (.tup xs) := tups_upd (sT _ _ hDu) fun xs z => by cases z
        rw [List.take_add_one, hrow, Option.toList_some]
        exact ((hU.same sT).mono keep).app (.cons ⟨T, rfl, keep _ _ upd_same⟩ .nil)
    · rintro H2 ⟨s2, us, hDu, hU⟩
      rw [List.take_of_length_le (by unfold heirs; rw [List.length_map, List.length_range, hbl]; exact Nat.le_refl _)] at hU
      refine ⟨D, us, rfl, .inl ⟨SqL.of hDu, fun p hp => ?_⟩⟩
      exact k _ p us (s2.trans (same_new hp)) upd_same (hU.same (same_new hp))
end
end K15

set_option maxRecDepth 100000
set_option maxHeartbeats 4000000
namespace K15
open PySem PySem.Spec PyProof.Rows L2 Kw
def inClass (st : Stmt) (j : Nat) : Stmt := match st with
  | .ClassDef (body := b) .. => b.getD j (.Pass ⟨0, 0, 0, 0⟩)
  | _ => .Pass ⟨0, 0, 0, 0⟩
abbrev FnM (K : PySem.W.Frag) (x qual : Str) (st : Stmt) (f : Addr) (fd : FuncData) : Prop := FunD K x qual (defArgs st) (defBody st) (defScope st) [] [] f fd
section
variable {P : Program} {w : World} {K : PySem.W.Frag} {mg : Str → Option Value} {base : Heap} {f C : Addr} {fd : FuncData}
theorem sc_badWorld : FnScope ["self", "index", "what"] ["self", "index", "what"] (defScope (inClass (top 3) 0)) := ⟨rfl, rfl, rfl, by decide +kernel, rfl, by decide +kernel, by decide +kernel⟩
theorem ok_badWorld (F : FnM K "__init__" "BadWorld.__init__" (inClass (top 3) 0) f fd) (T : ErrX K mg "BadWorld" ["index", "what"] C f) : FnOk P w K mg base CX0 1 f fd ["self", "index", "what"] (spR C ["index", "what"]) ∧ Binds K fd ["self", "index", "what"] [] := by
  refine ⟨F.ok sc_badWorld (fun vs H Q E h => ?_) (fun cdv A outer s H vs Q E hr h => ?_), F.bindsN fun _ _ _ _ _ _ us hl => match us, hl with | [_, _, _], _ => rfl⟩
  · obtain ⟨a, xs, rfl, hl, _⟩ := h
    exact congrArg Nat.succ hl
  · obtain ⟨a, xs, rfl, hl, ha, k⟩ := h
    match xs, hl with
    | [x1, x2], _ =>
      refine ⟨_, PSs.nox (pss_cons (ps_ost (pv 0) (pv 1)) (pss_one (ps_ost (pv 0) (pv 2)))), ?_⟩
      refine ⟨_, rfl, _, rfl, a, C, rfl, T.oex, T.no _ (List.mem_of_getElem? (i := 0) rfl), .inl ⟨ha, fun dx hd ne => ?_⟩⟩
      have A1 := @upd_same (upd H dx (exd dx [("index", x1)])) a (exo a C (some dx))
      have D1 : upd (upd H dx (exd dx [("index", x1)])) a (exo a C (some dx)) dx = some (exd dx [("index", x1)]) := upB ne upd_same
      have B1 : ∀ b o, b ≠ a → H b = some o → upd (upd H dx (exd dx [("index", x1)])) a (exo a C (some dx)) b = some o := fun b o hb e => upB hb (upB (ne_of_none e hd) e)
      generalize hG1 : upd (upd H dx (exd dx [("index", x1)])) a (exo a C (some dx)) = G1 at A1 D1 B1 ⊢
      refine ⟨_, rfl, _, rfl, a, C, rfl, T.oex, T.no _ (List.mem_of_getElem? (i := 1) rfl), .inr ⟨dx, [("index", x1)], A1, D1, (by show 1 ≤ 900; decide), ?_⟩⟩
      exact k dx _ hd ne (upB ne.symm A1) upd_same fun b o hb e => upB (ne_of_none e hd) (B1 b o hb e)
end
end K15

set_option maxRecDepth 100000
set_option maxHeartbeats 4000000
namespace K15
open PySem PySem.Spec PyProof.Rows L2 Kw
/-- bases, own fields, own methods, as they were given -/
abbrev Ent := List Nat × Nat × List Nat
def sortN (l : List Nat) : List Nat := (List.range 6).filter fun m => l.contains m
/-- a right entry of class c -/
def EntryOk (H : Hp) (e : V) (c : Nat) (d : Ent) : Prop := ∃ a ab am, e = .ref a ∧ SeqAt H a [.ref ab, natV d.2.1, .ref am] ∧ SeqAt H ab (d.1.map natV) ∧ SeqAt H am (d.2.2.map natV) ∧
  (d.1.Nodup ∧ d.1.length ≤ 12 ∧ ∀ b ∈ d.1, b < c) ∧ d.2.1 ≤ 3 ∧ d.2.2.Nodup ∧ d.2.2.length ≤ 3 ∧ ∀ m ∈ d.2.2, m < 6
theorem EntryOk.same {H H' : Hp} {e : V} {c : Nat} {d : Ent} (h : EntryOk H e c d) (s : Same H H') : EntryOk H' e c d := by
  obtain ⟨a, ab, am, h1, h2, h3, h4, h5⟩ := h
  exact ⟨a, ab, am, h1, h2.same s, h3.same s, h4.same s, h5⟩
theorem EntryIs.same {H H' : Hp} {e : V} {c : Int} {o : Option Str} (h : EntryIs H e c o) (s : Same H H') : EntryIs H' e c o := by
  rcases h with ⟨t, h1, h2⟩ | ⟨a, xs, h1, h2, h3⟩ | ⟨a, b, g, m, rb, nb, tg, rm, nm, h1, h2, h3, h4, h5, h6⟩
  · exact .inl ⟨t, h1.same s, h2⟩
  · exact .inr (.inl ⟨a, xs, h1, h2.same s, h3⟩)
  · exact .inr (.inr ⟨a, b, g, m, rb, nb, tg, rm, nm, h1, h2.same s, h3.same s, h4.same s, h5.same s, h6⟩)
theorem intOf_nats (l : List Nat) : (l.map natV).map intOf = l.map fun (n : Nat) => (n : Int) := by
  rw [List.map_map]
  rfl
theorem nodup_cast {l : List Nat} (h : l.Nodup) : (l.map fun (n : Nat) => (n : Int)).Nodup := by
  refine List.pairwise_map.mpr (h.imp fun z => ?_)
  intro e
  exact z (by omega)
theorem unlike_nats {l : List Nat} {m : Nat} (hn : l.Nodup) (hb : ∀ b ∈ l, b < m) : unlikeB (m : Int) (l.map natV) = true := by
  unfold unlikeB
  rw [intOf_nats, decide_eq_true (nodup_cast hn), Bool.and_true, List.all_eq_true]
  intro x hx
  obtain ⟨b, h1, rfl⟩ := List.mem_map.mp hx
  have := hb b h1
  show wholeB (.int 0) (.int ((m : Int) - 1)) (.int (b : Int)) = true
  unfold wholeB inLo inHi
  simp only [Bool.and_eq_true, decide_eq_true_eq]
  omega
theorem nats_ty {H : Hp} (l : List Nat) : ∀ y ∈ l.map natV, ∃ t, Ty0 H y t := fun y hy => by
  obtain ⟨b, h1, rfl⟩ := List.mem_map.mp hy
  exact ⟨_, .int _⟩
theorem EntryOk.is {H : Hp} {e : V} {c : Nat} {d : Ent} (h : EntryOk H e c d) : EntryIs H e (c : Int) none := by
  obtain ⟨a, ab, am, rfl, h2, h3, h4, ⟨h5, h6, h7⟩, h8, h9, h10, h11⟩ := h
  refine .inr (.inr ⟨a, .ref ab, natV d.2.1, .ref am, true, d.1.length, _, true, d.2.2.length, rfl, h2, .inr ⟨ab, _, rfl, h3, by rw [List.length_map]; omega, nats_ty _, (unlike_nats h5 h7).symm, by rw [List.length_map]⟩, .int _, .inr ⟨am, _, rfl, h4, by rw [List.length_map]; omega, nats_ty _, (unlike_nats (m := 6) h9 h11).symm, by rw [List.length_map]⟩, ?_⟩)
  have hw : wholeB (.int 0) (.int 3) (natV d.2.1) = true := by
    show wholeB (.int 0) (.int 3) (.int (d.2.1 : Int)) = true
    unfold wholeB inLo inHi
    simp only [Bool.and_eq_true, decide_eq_true_eq]
    omega
  unfold entryWord
  rw [if_neg (by decide), hw, if_neg (by decide), if_neg (by decide), if_neg (by omega)]
theorem sortN_one {l : List Nat} (hn : l.Nodup) (hb : ∀ m ∈ l, m < 6) {ys : List Int} (p : ys.Perm (l.map fun (n : Nat) => (n : Int))) (hs : ys.Pairwise (· ≤ ·)) : ys.map V.int = (sortN l).map natV := by
  have up : (sortN l).Pairwise (· < ·) := List.Pairwise.filter _ List.pairwise_lt_range
  refine sorted_one p hs hn (up_nodup up) (fun x => ?_) up
  unfold sortN
  rw [List.mem_filter, List.mem_range]
  constructor
  · intro h
    exact ⟨hb x h, by simpa using h⟩
  · rintro ⟨_, h⟩
    simpa using h
/-- an entry as a world keeps it -/
def EntAt (H : Hp) (t : Addr) (d : Ent) : Prop := ∃ tb tm, H t = some (.tup [.ref tb, natV d.2.1, .ref tm]) ∧ H tb = some (.tup (d.1.map natV)) ∧ H tm = some (.tup ((sortN d.2.2).map natV))
def EntsAt (H : Hp) : List V → List Ent → Prop := Paired fun v d => ∃ t, v = .ref t ∧ EntAt H t d
def TupK (H H' : Hp) : Prop := ∀ b xs, H b = some (.tup xs) → H' b = some (.tup xs)
theorem EntAt.mono {H H' : Hp} {t : Addr} {d : Ent} (h : EntAt H t d) (k : TupK H H') : EntAt H' t d := by
  obtain ⟨tb, tm, h1, h2, h3⟩ := h
  exact ⟨tb, tm, k _ _ h1, k _ _ h2, k _ _ h3⟩
theorem EntsAt.mono {H H' : Hp} (k : TupK H H') : ∀ {vs : List V} {ds : List Ent}, EntsAt H vs ds → EntsAt H' vs ds
  | [], [], _ => .nil
  | _ :: _, _ :: _, .cons ⟨t, e, h⟩ r => .cons ⟨t, e, h.mono k⟩ (EntsAt.mono k r)
theorem EntsAt.len {H : Hp} {vs : List V} {ds : List Ent} (h : EntsAt H vs ds) : vs.length = ds.length := Paired.length h
theorem EntsAt.get {H : Hp} : ∀ {vs : List V} {ds : List Ent} {i : Nat} {d : Ent}, EntsAt H vs ds → ds[i]? = some d → ∃ t, vs[i]? = some (.ref t) ∧ EntAt H t d
  | [], [], _, _, _, h => by simp at h
  | _ :: _, _ :: _, 0, _, .cons ⟨t, e1, h⟩ _, e => by
    obtain rfl := Option.some.inj e
    exact ⟨t, by rw [e1]; rfl, h⟩
  | _ :: _, _ :: _, i + 1, _, .cons _ r, e => EntsAt.get (i := i) r e
theorem EntsAt.app {H : Hp} : ∀ {vs us : List V} {ls ms : List Ent}, EntsAt H vs ls → EntsAt H us ms → EntsAt H (vs ++ us) (ls ++ ms)
  | [], _, [], _, _, h => h
  | _ :: _, _, _ :: _, _, .cons h r, s => .cons h (EntsAt.app r s)
theorem Same.tupK {H H' : Hp} (s : Same H H') : TupK H H' := fun b xs e => s b _ e
/-- all but the object at p stays -/
def Oth (p : Addr) (H H' : Hp) : Prop := ∀ b o, b ≠ p → H b = some o → H' b = some o
theorem Oth.trans {p : Addr} {H H1 H2 : Hp} (a : Oth p H H1) (b : Oth p H1 H2) : Oth p H H2 := fun c o n e => b c o n (a c o n e)
theorem Oth.of {p : Addr} {H H1 : Hp} (s : Same H H1) : Oth p H H1 := fun c o _ e => s c o e
theorem Oth.upd {p : Addr} {H H1 : Hp} {o : HO} (s : Oth p H H1) : Oth p H (upd H1 p o) := fun c u n e => upB n (s c u n e)
theorem Oth.tupK {p : Addr} {H H' : Hp} {C dx : Addr} {fs : List (Str × V)} (s : Oth p H H') (h : H p = some (.ins C dx fs)) : TupK H H' := fun b xs e => s b _ (fun z => by
  rw [z, h] at e
  cases e) e
/-- a world as an object -/
def WorldFs (ac ab ao am ae ah : Addr) : List (Str × V) := [("classes", .ref ac), ("bases", .ref ab), ("owns", .ref ao), ("methods", .ref am), ("elders", .ref ae), ("heirs", .ref ah)]
def WorldAt (H : Hp) (p C : Addr) (ds : List Ent) : Prop := ∃ dx ac ab ao am ae ah cs bs ms es hs, H p = some (.ins C dx (WorldFs ac ab ao am ae ah)) ∧ H ac = some (.tup cs) ∧ EntsAt H cs ds ∧
  H ab = some (.tup bs) ∧ TupsAt H bs (ds.map (·.1)) ∧ H ao = some (.tup ((ds.map (·.2.1)).map natV)) ∧ H am = some (.tup ms) ∧ TupsAt H ms (ds.map fun d => sortN d.2.2) ∧
  H ae = some (.tup es) ∧ TupsAt H es (elders (ds.map (·.1))) ∧ H ah = some (.tup hs) ∧ TupsAt H hs (heirs (elders (ds.map (·.1))))
end K15

set_option maxRecDepth 100000
set_option maxHeartbeats 8000000
namespace K15
open PySem PySem.Spec PyProof.Rows L2 Kw
structure ClsWorld (K : PySem.W.Frag) (mg : Str → Option Value) (C : Addr) : Prop where
  cl : Cls K C
  no : ∀ f ∈ (["classes", "bases", "owns", "methods", "elders", "heirs"] : List Str), NoAttr K C f
section
variable {P : Program} {w : World} {K : PySem.W.Frag} {mg : Str → Option Value} {base : Heap} {f fS fW fU fE fL fH fB Cb C : Addr} {fd fdS fdW fdU fdE fdL fdH fdB : FuncData}
def spWorld (C Cb : Addr) : Sp := fun vs H Q E => ∃ (p dx : Addr) (x : V), vs = [.ref p, x] ∧ H p = some (.ins C dx []) ∧
  ((((∃ t, Ty0 H x t ∧ seqT t = false) ∨ ∃ a es, x = .ref a ∧ SeqAt H a es ∧ (es.length = 0 ∨ 12 < es.length)) ∧ ∀ d H', Same H H' → H' d = some (.xd (errF ["index", "what"] [.int 0, .str "many"])) → E (.ref Cb) (some d) H') ∨
   ∃ a es ds, x = .ref a ∧ SeqAt H a es ∧ es.length ≠ 0 ∧ es.length ≤ 12 ∧ ds.length ≤ es.length ∧ (∀ (i : Nat) (d : Ent), ds[i]? = some d → ∃ e, es[i]? = some e ∧ EntryOk H e i d) ∧
     ((∃ e word, es[ds.length]? = some e ∧ EntryIs H e (ds.length : Int) (some word) ∧ ∀ d H', Same H H' → H' d = some (.xd (errF ["index", "what"] [.int (ds.length : Int), .str word])) → E (.ref Cb) (some d) H') ∨
      (ds.length = es.length ∧ ∀ H', Oth p H H' → WorldAt H' p C ds → Q .non H')))
/-- enumerate over a list or a tuple that stands -/
theorem for_enumS {a : Addr} {xs : List V} {g : TG} {tb : TS} {D : Ends} {σ : L2.St} {H H0 : Hp} {j : Nat} (hj : σ[j]? = some (some (.ref a))) (hA : SeqAt H0 a xs) (s0 : Same H0 H) (Pv : Nat → L2.St → Hp → Prop) (h0 : Pv 0 σ H) (keep : ∀ i σ' H', Pv i σ' H' → Same H0 H')
    (hs : ∀ i x σ H T, xs[i]? = some x → Pv i σ H → H T = none → g (.ref T) σ (upd H T (.tup [.int (i : Nat), x])) fun σ2 H2 => tb { D with nx := Pv (i + 1), ct := Pv (i + 1), bk := D.nx } σ2 H2) (hd : ∀ σ H, Pv xs.length σ H → D.nx σ H) :
    tFor (fun σ H R => iEnum K (tCons (tVar j) tNil) σ H R ∨ iEnumT K (tCons (tVar j) tNil) σ H R) g tb D σ H := by
  rcases hA with hA | hA
  · exact .inl ⟨_, hj, a, xs, rfl, SqL.of (s0 _ _ hA), for_enumL Pv h0 (fun i σ H' _ h => SqL.of (keep i σ H' h _ _ hA)) hs hd⟩
  · exact .inr ⟨_, hj, a, xs, rfl, SqT.of (s0 _ _ hA), for_enumT Pv h0 (fun i σ H' _ h => SqT.of (keep i σ H' h _ _ hA)) hs hd⟩
theorem tup_q {H : Hp} {a : Addr} {xs : List V} {Q : VK} (hA : SeqAt H a xs) (q : ∀ p H', Same H H' → H' p = some (.tup xs) → Q (.ref p) H') :
    rTupOf K [V.ref a] H Q := by
  refine ⟨a, xs, rfl, ?_⟩
  rcases hA with hA | hA
  · exact .inl ⟨SqL.of hA, fun l hl => q l _ (same_new hl) upd_same⟩
  · exact .inr ⟨SqT.of hA, q a H (Same.refl H) hA⟩
/-- a column of the entries, as a new list -/
theorem col_q {x0 x1 x3 x4 x5 x6 x7 x8 : Option V} {R : Addr} {us : List V} {ds : List Ent} {H : Hp} {k : Int} {Q : VK} (ColP : Hp → V → Ent → Prop) (hmono : ∀ H H' v d, TupK H H' → ColP H v d → ColP H' v d)
    (hcol : ∀ H t d, EntAt H t d → ∃ xs v, H t = some (.tup xs) ∧ atI xs k = some v ∧ ColP H v d) (hR : H R = some (.lst us)) (hE : EntsAt H us ds) (h12 : ds.length ≤ 12)
    (q : ∀ D H' vs, Same H H' → H' D = some (.lst vs) → Paired (ColP H') vs ds → Q (.ref D) H') :
    tLc (iList K (tVar 2)) (gName 4) tYes (tOp (rIxT K) (tVar 4) (tC (.int k))) [4] [x0, x1, some (.ref R), x3, x4, x5, x6, x7, x8] H Q := by
  have hmonoP : ∀ {H H' : Hp}, TupK H H' → ∀ {vs : List V} {ds : List Ent}, Paired (ColP H) vs ds → Paired (ColP H') vs ds := fun kk => by
    intro vs ds h
    induction h with
    | nil => exact .nil
    | cons z _ ih => exact .cons (hmono _ _ _ _ kk z) ih
  have app1 : ∀ {H : Hp} {vs : List V} {ds : List Ent} {v : V} {d : Ent}, Paired (ColP H) vs ds → ColP H v d → Paired (ColP H) (vs ++ [v]) (ds ++ [d]) := fun h z => by
    induction h with
    | nil => exact .cons z .nil
    | cons y _ ih => exact .cons y ih
  refine ⟨_, rfl, R, rfl, ⟨_, SqL.of hR⟩, fun D hD => lc_list (K := K) (a := R) (xs := us) (fun i H2 => Same H H2 ∧ ∃ vs, H2 D = some (.lst vs) ∧ Paired (ColP H2) vs (ds.take i)) ⟨same_new hD, [], upd_same, .nil⟩ (fun i H2 _ h => SqL.of (h.1 _ _ hR)) ?_ ?_⟩
  · rintro i y H2 hi ⟨s2, vs, hDv, hP⟩
    have hil : i < ds.length := by
      rw [← hE.len]
      exact (List.getElem?_eq_some_iff.mp hi).1
    obtain ⟨d, hd⟩ : ∃ d, ds[i]? = some d := ⟨_, List.getElem?_eq_getElem hil⟩
    obtain ⟨t, et, ht⟩ := hE.get hd
    obtain rfl : V.ref t = y := Option.some.inj (et.symm.trans hi)
    obtain ⟨xs, v, h1, h2, h3⟩ := hcol H2 t d (ht.mono (Same.tupK s2))
    have hvl : vs.length = i := by
      rw [Paired.length hP, List.length_take]
      omega
    have kk : TupK H2 (upd H2 D (.lst (vs ++ [v]))) := tups_upd hDv fun xs z => by cases z
    refine ⟨rfl, _, rfl, t, xs, k, v, rfl, rfl, SqT.of h1, h2, vs, hDv, by (rw [hvl]; show i < 2 ^ 24; omega), same_upd s2 hD, vs ++ [v], upd_same, ?_⟩
    rw [List.take_add_one, hd, Option.toList_some]
    exact app1 (hmonoP kk hP) (hmono _ _ _ _ kk h3)
  · rintro H2 ⟨s2, vs, hDv, hP⟩
    rw [hE.len, List.take_length] at hP
    exact q D H2 vs s2 hDv hP
def ColB (H : Hp) (v : V) (d : Ent) : Prop := ∃ t, v = .ref t ∧ H t = some (.tup (d.1.map natV))
def ColO (_ : Hp) (v : V) (d : Ent) : Prop := v = natV d.2.1
def ColM (H : Hp) (v : V) (d : Ent) : Prop := ∃ t, v = .ref t ∧ H t = some (.tup ((sortN d.2.2).map natV))
theorem colB_tups {H : Hp} {vs : List V} {ds : List Ent} (h : Paired (ColB H) vs ds) : TupsAt H vs (ds.map (·.1)) := by
  induction h with
  | nil => exact .nil
  | cons z _ ih => exact .cons z ih
theorem colM_tups {H : Hp} {vs : List V} {ds : List Ent} (h : Paired (ColM H) vs ds) : TupsAt H vs (ds.map fun d => sortN d.2.2) := by
  induction h with
  | nil => exact .nil
  | cons z _ ih => exact .cons z ih
theorem colO_nats {H : Hp} {vs : List V} {ds : List Ent} (h : Paired (ColO H) vs ds) : vs = (ds.map (·.2.1)).map natV := by
  induction h with
  | nil => rfl
  | cons z _ ih => rw [z, ih]; rfl
/-- a reading kept as it is said -/
structure Box (p : Prop) : Prop where
  h : p
def tBox (t : TE) : TE := fun σ H Q => Box (t σ H Q)
theorem pe_box {X : Cx} {e : Expr} {t : TE} (h : PE X e t) : PE X e (tBox t) := ⟨fun pins s σ H Q I k => h.run pins s σ H Q I k.h⟩
theorem sc_world : FnScope ["self", "classes", "entries", "c", "entry", "what", "bases", "fields", "methods"] ["self", "classes"] (defScope (inClass (top 30) 0)) := ⟨rfl, rfl, rfl, by decide +kernel, rfl, by decide +kernel, by decide +kernel⟩
theorem ok_world (F : FnM K "__init__" "World.__init__" (inClass (top 30) 0) f fd) (B : Fr mg) (Z : Cst mg) (TC : ClsWorld K mg C) (FS : FnP K "is_sequence" 10 fS fdS) (mS : mg "is_sequence" = some (.ref fS)) (FW : FnDf K "is_whole" 11 [.non, .non] fW fdW) (mW : mg "is_whole" = some (.ref fW))
    (FU : FnP K "is_unlike_row" 12 fU fdU) (mU : mg "is_unlike_row" = some (.ref fU)) (FE : FnP K "entry_fault" 31 fE fdE) (mE : mg "entry_fault" = some (.ref fE)) (FL : FnP K "elder_rows" 32 fL fdL) (mL : mg "elder_rows" = some (.ref fL))
    (FH : FnP K "heir_rows" 33 fH fdH) (mH : mg "heir_rows" = some (.ref fH)) (FB : FnM K "__init__" "BadWorld.__init__" (inClass (top 3) 0) fB fdB) (TB : ErrX K mg "BadWorld" ["index", "what"] Cb fB) :
    FnOk P w K mg base (L2.CX P w) 4 f fd ["self", "classes"] (spWorld C Cb) := by
  have GS : FnOk P w K mg base CX0 1 fS fdS ["thing"] spIsSeq := ok_isSeq FS B
  have GE : FnOk P w K mg base CX0 3 fE fdE ["entry", "c"] spEntry := ok_entry FE B Z FS mS FW mW FU mU
  have GL : FnOk P w K mg base CX0 1 fL fdL ["bases"] spElders := ok_elders FL B
  have GH : FnOk P w K mg base CX0 1 fH fdH ["elders"] spHeirs := ok_heirs FH B
  obtain ⟨GB, bB⟩ : FnOk P w K mg base CX0 1 fB fdB ["self", "index", "what"] (spR Cb ["index", "what"]) ∧ Binds K fdB ["self", "index", "what"] [] := ok_badWorld FB TB
  have bS : L2.Binds K fdS ["thing"] [] := FS.bindsN fun _ _ _ _ _ _ us hl => match us, hl with | [_], _ => rfl
  have bE : L2.Binds K fdE ["entry", "c"] [] := FE.bindsN fun _ _ _ _ _ _ us hl => match us, hl with | [_, _], _ => rfl
  have bL : L2.Binds K fdL ["bases"] [] := FL.bindsN fun _ _ _ _ _ _ us hl => match us, hl with | [_], _ => rfl
  have bH : L2.Binds K fdH ["elders"] [] := FH.bindsN fun _ _ _ _ _ _ us hl => match us, hl with | [_], _ => rfl
  obtain ⟨tc, zc⟩ := Z.mc
  refine F.ok sc_world (fun vs H Q E h => ?_) (fun cdv A outer s H vs Q E hr h => ?_)
  · obtain ⟨p, dx, x, rfl, _⟩ := h
    rfl
  · obtain ⟨p, dx, x, rfl, hp, h⟩ := h
    refine ⟨_, (pss_cons (ps_if (PW.pt (pw_or (pt_not (pt_val (pe_call GS (hr.mono (by decide)) (by rfl) mS FS.kp bS .nil pass0 (pa_cons (pv 1) pa_nil)))) (pw_or (pt_cmpR op_eq (pe_callB call_len_seq (by rfl) B.len PySem.boot_len (pa_cons (pv 1) pa_nil)) pe_int (nomark _)) (pw_or1 (pt_cmpR op_gt (pe_callB call_len_seq (by rfl) B.len PySem.boot_len (pa_cons (pv 1) pa_nil)) (pe_glob (v := .int 12) (by rfl) zc ⟨_, rfl⟩) (nomark _))))))
        (pss_one (ps_raise rfl (takes_of rfl rfl rfl rfl) (pmk_oex TB.oex TB.ini TB.inT GB (hr.mono (by decide)) bB .nil pass0 (by rfl) TB.mg (pa_cons pe_int (pa_cons pe_str pa_nil))))) pss_nil)
      (pss_cons (ps_set (i := 2) sc_world.nd rfl (Or.inl rfl) (pe_lst pa_nil))
      (pss_cons (ps_for (passes_of rfl) rfl (pi_or (pi_enum (by rfl) B.enumerate (pa_cons (pv 1) pa_nil)) (pi_enumT (by rfl) B.enumerate (pa_cons (pv 1) pa_nil))) (pg_tup (by rfl) (pgs_cons (pg_name (i := 3) sc_world.nd rfl (Or.inl rfl)) (pgs_cons (pg_name (i := 4) sc_world.nd rfl (Or.inl rfl)) pgs_nil)))
        (pss_cons (ps_set (i := 5) sc_world.nd rfl (Or.inl rfl) (pe_call GE hr (by rfl) mE FE.kp bE .nil pass0 (pa_cons (pv 4) (pa_cons (pv 3) pa_nil))))
        (pss_cons (ps_if (pt_cmpR op_notN (pv 5) pe_non (nomark _)) (pss_one (ps_raise rfl (takes_of rfl rfl rfl rfl) (pmk_oex TB.oex TB.ini TB.inT GB (hr.mono (by decide)) bB .nil pass0 (by rfl) TB.mg (pa_cons (pv 3) (pa_cons (pv 5) pa_nil))))) pss_nil)
        (pss_cons (ps_asg (pv 4) (pg_or (pg_unl (by rfl) (pgs_cons (pg_name (i := 6) sc_world.nd rfl (Or.inl rfl)) (pgs_cons (pg_name (i := 7) sc_world.nd rfl (Or.inl rfl)) (pgs_cons (pg_name (i := 8) sc_world.nd rfl (Or.inl rfl)) pgs_nil)))) (pg_tup (by rfl) (pgs_cons (pg_name (i := 6) sc_world.nd rfl (Or.inl rfl)) (pgs_cons (pg_name (i := 7) sc_world.nd rfl (Or.inl rfl)) (pgs_cons (pg_name (i := 8) sc_world.nd rfl (Or.inl rfl)) pgs_nil))))))
        (pss_one (ps_expr (pe_bm PySem.F.plainAttrs_list PySem.F.slot_list_append PySem.F.type_list_append mt_append (pv 2) (pa_cons (pe_tup (pa_cons (pe_callTy (T := "tuple") (r := rTupOf K) (call_tup (X := _)) (by rfl) B.tuple (by decide +kernel) (pa_cons (pv 6) pa_nil)) (pa_cons (pv 7) (pa_cons (pe_callTy (T := "tuple") (r := rTupOf K) (call_tup (X := _)) (by rfl) B.tuple (by decide +kernel) (pa_cons (pe_callB call_sortedSI (by rfl) B.sorted (by decide +kernel) (pa_cons (pv 8) pa_nil)) pa_nil)) pa_nil)))) pa_nil))))))))
      (pss_cons (ps_fld (pv 0) (pe_callTy (T := "tuple") (r := rTupOf K) (call_tup (X := _)) (by rfl) B.tuple (by decide +kernel) (pa_cons (pv 2) pa_nil)) rfl)
      (pss_cons (ps_fld (pv 0) (pe_callTy (T := "tuple") (r := rTupOf K) (call_tup (X := _)) (by rfl) B.tuple (by decide +kernel) (pa_cons (pe_box <| pe_lc (own := [("entry", 4)]) (g := gName 4) (tt := tYes) rfl sc_world.nd (pi_list (pv 2)) (blkOk_by (by rfl)) (fun _ _ _ _ _ => pg_name (i := 4) sc_world.nd rfl (Or.inl rfl)) (fun _ _ _ _ _ => pts_nil) (fun _ _ _ _ _ => pe_ix (r := rIxT K) ix_tup (pv 4) pe_int (fun _ _ => rfl))) pa_nil)) rfl)
      (pss_cons (ps_fld (pv 0) (pe_callTy (T := "tuple") (r := rTupOf K) (call_tup (X := _)) (by rfl) B.tuple (by decide +kernel) (pa_cons (pe_box <| pe_lc (own := [("entry", 4)]) (g := gName 4) (tt := tYes) rfl sc_world.nd (pi_list (pv 2)) (blkOk_by (by rfl)) (fun _ _ _ _ _ => pg_name (i := 4) sc_world.nd rfl (Or.inl rfl)) (fun _ _ _ _ _ => pts_nil) (fun _ _ _ _ _ => pe_ix (r := rIxT K) ix_tup (pv 4) pe_int (fun _ _ => rfl))) pa_nil)) rfl)
      (pss_cons (ps_fld (pv 0) (pe_callTy (T := "tuple") (r := rTupOf K) (call_tup (X := _)) (by rfl) B.tuple (by decide +kernel) (pa_cons (pe_box <| pe_lc (own := [("entry", 4)]) (g := gName 4) (tt := tYes) rfl sc_world.nd (pi_list (pv 2)) (blkOk_by (by rfl)) (fun _ _ _ _ _ => pg_name (i := 4) sc_world.nd rfl (Or.inl rfl)) (fun _ _ _ _ _ => pts_nil) (fun _ _ _ _ _ => pe_ix (r := rIxT K) ix_tup (pv 4) pe_int (fun _ _ => rfl))) pa_nil)) rfl)
      (pss_cons (ps_fld (pv 0) (pe_call GL (hr.mono (by decide)) (by rfl) mL FL.kp bL .nil pass0 (pa_cons (pe_fld (pv 0) rfl) pa_nil)) rfl)
      (pss_one (ps_fld (pv 0) (pe_call GH (hr.mono (by decide)) (by rfl) mH FH.kp bH .nil pass0 (pa_cons (pe_fld (pv 0) rfl) pa_nil)) rfl)))))))))), ?_⟩
    rcases h with ⟨h, k⟩ | ⟨a, es, ds, rfl, hA, hn0, hn12, hdl, hok, h⟩
    · rcases h with ⟨t, ty, hs⟩ | ⟨a, es, rfl, hA, hlen⟩
      · refine ⟨_, rfl, x, t, rfl, ty, fun H1 s1 => ⟨_, rfl, ?_⟩⟩
        rw [hs]
        exact iteT (raise_q rfl (by decide) fun d H' s2 _ e => k d H' (s1.trans s2) e)
      · obtain ⟨t, ty, hseq⟩ := hA.ty
        refine ⟨_, rfl, _, t, rfl, ty, fun H1 s1 => ⟨_, rfl, ?_⟩⟩
        rw [hseq]
        refine iteF ⟨_, rfl, a, es, rfl, (hA.same s1).sq, rfl, _, rfl, ?_⟩
        by_cases q : es.length = 0
        · have z : decide (V.int (es.length : Int) = V.int 0) = true := decide_eq_true (by rw [q]; rfl)
          rw [z]
          exact iteT (raise_q rfl (by decide) fun d H' s2 _ e => k d H' (s1.trans s2) e)
        · have z : decide (V.int (es.length : Int) = V.int 0) = false := decide_eq_false fun e => q (by have := V.int.inj e; omega)
          rw [z]
          refine iteF ⟨_, rfl, a, es, rfl, (hA.same s1).sq, _, _, rfl, rfl, _, rfl, ?_⟩
          rw [decide_eq_true (show (12 : Int) < (es.length : Int) by omega)]
          exact iteT (raise_q rfl (by decide) fun d H' s2 _ e => k d H' (s1.trans s2) e)
    · obtain ⟨t, ty, hseq⟩ := hA.ty
      refine ⟨_, rfl, _, t, rfl, ty, fun H1 s1 => ⟨_, rfl, ?_⟩⟩
      rw [hseq]
      refine iteF ⟨_, rfl, a, es, rfl, (hA.same s1).sq, rfl, _, rfl, ?_⟩
      rw [decide_eq_false (show ¬ V.int (es.length : Int) = V.int 0 from fun e => hn0 (by have := V.int.inj e; omega))]
      refine iteF ⟨_, rfl, a, es, rfl, (hA.same s1).sq, _, _, rfl, rfl, _, rfl, ?_⟩
      rw [decide_eq_false (show ¬ (12 : Int) < (es.length : Int) by omega)]
      refine iteF ⟨by decide, fun R hR => ?_⟩
      have hRH : H R = none := s1.free hR
      have sR : Same H (upd H1 R (.lst [])) := s1.trans (same_new hR)
      refine for_enumS (K := K) (a := a) (xs := es) rfl hA sR (fun i σ H' => Same H H' ∧ i ≤ ds.length ∧ ∃ us x3 x4 x5 x6 x7 x8, σ = [some (.ref p), some (.ref a), some (.ref R), x3, x4, x5, x6, x7, x8] ∧ H' R = some (.lst us) ∧ EntsAt H' us (ds.take i))
        ⟨sR, Nat.zero_le _, [], none, none, none, none, none, none, rfl, upd_same, .nil⟩ (fun i σ H' h => h.1) ?_ ?_
      · rintro i e σ H' T hi ⟨sH, hid, us, x3, x4, x5, x6, x7, x8, rfl, hRu, hE⟩ hT
        have hil : i < es.length := (List.getElem?_eq_some_iff.mp hi).1
        have sT : Same H' (upd H' T (.tup [.int (i : Nat), e])) := same_new hT
        refine ⟨T, _, rfl, SqT.of upd_same, rfl, _, _, rfl, _, _, rfl, rfl, ?_⟩
        generalize hG : upd H' T (.tup [.int (i : Nat), e]) = G at sT ⊢
        by_cases hd : i < ds.length
        · obtain ⟨d, hdi⟩ : ∃ d, ds[i]? = some d := ⟨_, List.getElem?_eq_getElem hd⟩
          obtain ⟨e', he', hok1⟩ := hok i d hdi
          obtain rfl : e = e' := Option.some.inj (hi.symm.trans he')
          have hokG := hok1.same (sH.trans sT)
          refine ⟨_, rfl, _, rfl, e, (i : Int), none, rfl, hokG.is, fun H2 s2 => ?_⟩
          have hok2 := hokG.same s2
          obtain ⟨ae, ab, am, rfl, hs, hb, hm, ⟨hb1, hb2, hb3⟩, hf, hm1, hm2, hm3⟩ := hok2
          have hRu2 : H2 R = some (.lst us) := s2 _ _ (sT _ _ hRu)
          have hE2 : EntsAt H2 us (ds.take i) := hE.mono (Same.tupK (Same.trans sT s2))
          have sH2 : Same H H2 := (sH.trans sT).trans s2
          refine ⟨_, rfl, rfl, _, rfl, iteF ?_⟩
          refine ⟨_, rfl, ?_⟩
          rcases hs with hs | hs
          case' inl => refine .inl ⟨ae, _, rfl, SqL.of hs, rfl, _, _, rfl, _, _, rfl, _, _, rfl, rfl, ?_⟩
          case' inr => refine .inr ⟨ae, _, rfl, SqT.of hs, rfl, _, _, rfl, _, _, rfl, _, _, rfl, rfl, ?_⟩
          all_goals
            refine ⟨_, rfl, .inl ⟨rfl, _, SqL.of hRu2⟩, _, rfl, ?_⟩
            refine tup_q hb fun tb H3 s3 hb' => ⟨_, rfl, _, rfl, am, d.2.2.map (fun (n : Nat) => (n : Int)), rfl, ?_, fun ys L perm srt hL => ?_⟩
            · have z := (hm.same s3).sq (K := K)
              rw [List.map_map]
              exact z
            · refine tup_q (.inl upd_same) fun tm H4 s4 hm' => ⟨by (show 3 ≤ sizeLine); decide, fun tt htt => ?_⟩
              have eys := sortN_one hm1 hm3 perm srt
              rw [eys] at hm'
              have sL := same_new (o := .lst (ys.map V.int)) hL
              have s34 : Same H3 H4 := sL.trans s4
              have s24 : Same H2 H4 := s3.trans s34
              have st := same_new (o := .tup [.ref tb, natV d.2.1, .ref tm]) htt
              have sA := s24.trans st
              refine ⟨R, us, _, rfl, rfl, sA _ _ hRu2, ?_, same_upd (sH2.trans sA) hRH, by omega, us ++ [.ref tt], _, _, _, _, _, _, rfl, upd_same, ?_⟩
              · rw [hE2.len, List.length_take]
                show _ < 2 ^ 24
                omega
              · have keep : TupK (upd H4 tt (.tup [.ref tb, natV d.2.1, .ref tm])) (upd (upd H4 tt (.tup [.ref tb, natV d.2.1, .ref tm])) R (.lst (us ++ [.ref tt]))) := tups_upd (sA _ _ hRu2) fun xs z => by cases z
                rw [List.take_add_one, hdi, Option.toList_some]
                exact (((hE2.mono (Same.tupK sA)).mono keep).app (.cons ⟨tt, rfl, tb, tm, keep _ _ upd_same, keep _ _ (st _ _ (s34 _ _ hb')), keep _ _ (st _ _ hm')⟩ .nil))
        · have hid' : i = ds.length := by omega
          subst hid'
          rcases h with ⟨e', word, he', his, k⟩ | ⟨hl, _⟩
          · obtain rfl : e = e' := Option.some.inj (hi.symm.trans he')
            refine ⟨_, rfl, _, rfl, e, (ds.length : Int), some word, rfl, his.same (sH.trans sT), fun H2 s2 => ?_⟩
            refine ⟨_, rfl, rfl, _, rfl, iteT ?_⟩
            exact ⟨_, rfl, _, rfl, raise_q rfl (by decide) fun d H' s3 _ e => k d H' (((sH.trans sT).trans s2).trans s3) e⟩
          · omega
      · rintro σ H0 ⟨sH, hid, us, x3, x4, x5, x6, x7, x8, rfl, hRu, hE⟩
        have hln : ds.length = es.length := by omega
        rcases h with ⟨e', word, he', _⟩ | ⟨_, k⟩
        · rw [hln, List.getElem?_eq_none (Nat.le_refl _)] at he'
          cases he'
        rw [List.take_of_length_le (by omega)] at hE
        have h12 : ds.length ≤ 12 := by omega
        have hp0 : H0 p = some (.ins C dx []) := sH _ _ hp
        have hRp : R ≠ p := fun z => by
          rw [z, hp0] at hRu
          cases hRu
        have O0 : Oth p H H0 := Oth.of sH
        -- classes
        refine ⟨_, rfl, ?_⟩
        refine tup_q (.inl hRu) fun pc G t1 hc => ⟨_, rfl, p, C, dx, [], rfl, t1 _ _ hp0, TC.cl, TC.no _ (List.mem_of_getElem? (i := 0) rfl), by simp, ?_⟩
        have O1 : Oth p H0 (upd G p (.ins C dx (putF "classes" (.ref pc) []))) := Oth.upd (Oth.of t1)
        have P1 : upd G p (.ins C dx (putF "classes" (.ref pc) [])) p = some (.ins C dx [("classes", .ref pc)]) := upd_same
        have C1 : upd G p (.ins C dx (putF "classes" (.ref pc) [])) pc = some (.tup us) := tups_upd (t1 _ _ hp0) (fun xs z => by cases z) _ _ hc
        generalize hN : upd G p (.ins C dx (putF "classes" (.ref pc) [])) = N1 at O1 P1 C1 ⊢
        have E1 : EntsAt N1 us ds := hE.mono (O1.tupK hp0)
        have R1 : N1 R = some (.lst us) := O1 _ _ hRp hRu
        clear hN t1 hc G
        -- bases
        refine Box.mk <| col_q (k := 0) ColB (fun H H' v d kk z => ?_) (fun H t d z => ?_) R1 E1 h12 fun D G0 bs t0 hD hB => ?_
        · obtain ⟨t, e1, e2⟩ := z
          exact ⟨t, e1, kk _ _ e2⟩
        · obtain ⟨tb, tm, z1, z2, z3⟩ := z
          exact ⟨_, _, z1, rfl, tb, rfl, z2⟩
        refine tup_q (.inl hD) fun pb G t1 hx => ⟨_, rfl, p, C, dx, _, rfl, t1 _ _ (t0 _ _ P1), TC.cl, TC.no _ (List.mem_of_getElem? (i := 1) rfl), by simp, ?_⟩
        have tt : Same N1 G := Same.trans t0 t1
        have O2 : Oth p N1 (upd G p (.ins C dx (putF "bases" (.ref pb) [("classes", .ref pc)]))) := Oth.upd (Oth.of tt)
        have P2 : upd G p (.ins C dx (putF "bases" (.ref pb) [("classes", .ref pc)])) p = some (.ins C dx [("classes", .ref pc), ("bases", .ref pb)]) := upd_same
        have X2 : upd G p (.ins C dx (putF "bases" (.ref pb) [("classes", .ref pc)])) pb = some (.tup bs) := tups_upd (tt _ _ P1) (fun xs z => by cases z) _ _ hx
        have kk2 : TupK G (upd G p (.ins C dx (putF "bases" (.ref pb) [("classes", .ref pc)]))) := tups_upd (tt _ _ P1) fun xs z => by cases z
        have T1 : TupsAt (upd G p (.ins C dx (putF "bases" (.ref pb) [("classes", .ref pc)]))) bs (ds.map (·.1)) := ((colB_tups hB).mono (Same.tupK t1)).mono kk2
        generalize hN : upd G p (.ins C dx (putF "bases" (.ref pb) [("classes", .ref pc)])) = N2 at O2 P2 X2 kk2 T1 ⊢
        have E2 : EntsAt N2 us ds := E1.mono (O2.tupK P1)
        have R2 : N2 R = some (.lst us) := O2 _ _ hRp R1
        clear hN kk2 tt t1 t0 hx hD hB G G0
        -- owns
        refine Box.mk <| col_q (k := 1) ColO (fun H H' v d kk z => z) (fun H t d z => ?_) R2 E2 h12 fun D G0 os t0 hD hB => ?_
        · obtain ⟨tb, tm, z1, z2, z3⟩ := z
          exact ⟨_, _, z1, rfl, rfl⟩
        refine tup_q (.inl hD) fun po G t1 hx => ⟨_, rfl, p, C, dx, _, rfl, t1 _ _ (t0 _ _ P2), TC.cl, TC.no _ (List.mem_of_getElem? (i := 2) rfl), by simp, ?_⟩
        have tt : Same N2 G := Same.trans t0 t1
        have O3 : Oth p N2 (upd G p (.ins C dx (putF "owns" (.ref po) [("classes", .ref pc), ("bases", .ref pb)]))) := Oth.upd (Oth.of tt)
        have P3 : upd G p (.ins C dx (putF "owns" (.ref po) [("classes", .ref pc), ("bases", .ref pb)])) p = some (.ins C dx [("classes", .ref pc), ("bases", .ref pb), ("owns", .ref po)]) := upd_same
        have X3 : upd G p (.ins C dx (putF "owns" (.ref po) [("classes", .ref pc), ("bases", .ref pb)])) po = some (.tup os) := tups_upd (tt _ _ P2) (fun xs z => by cases z) _ _ hx
        have kk3 : TupK G (upd G p (.ins C dx (putF "owns" (.ref po) [("classes", .ref pc), ("bases", .ref pb)]))) := tups_upd (tt _ _ P2) fun xs z => by cases z
        have T2 : os = (ds.map (·.2.1)).map natV := colO_nats hB
        generalize hN : upd G p (.ins C dx (putF "owns" (.ref po) [("classes", .ref pc), ("bases", .ref pb)])) = N3 at O3 P3 X3 kk3 ⊢
        have E3 : EntsAt N3 us ds := E2.mono (O3.tupK P2)
        have R3 : N3 R = some (.lst us) := O3 _ _ hRp R2
        clear hN kk3 tt t1 t0 hx hD hB G G0
        -- methods
        refine Box.mk <| col_q (k := 2) ColM (fun H H' v d kk z => ?_) (fun H t d z => ?_) R3 E3 h12 fun D G0 ms t0 hD hB => ?_
        · obtain ⟨t, e1, e2⟩ := z
          exact ⟨t, e1, kk _ _ e2⟩
        · obtain ⟨tb, tm, z1, z2, z3⟩ := z
          exact ⟨_, _, z1, rfl, tm, rfl, z3⟩
        refine tup_q (.inl hD) fun pm G t1 hx => ⟨_, rfl, p, C, dx, _, rfl, t1 _ _ (t0 _ _ P3), TC.cl, TC.no _ (List.mem_of_getElem? (i := 3) rfl), by simp, ?_⟩
        have tt : Same N3 G := Same.trans t0 t1
        have O4 : Oth p N3 (upd G p (.ins C dx (putF "methods" (.ref pm) [("classes", .ref pc), ("bases", .ref pb), ("owns", .ref po)]))) := Oth.upd (Oth.of tt)
        have P4 : upd G p (.ins C dx (putF "methods" (.ref pm) [("classes", .ref pc), ("bases", .ref pb), ("owns", .ref po)])) p = some (.ins C dx [("classes", .ref pc), ("bases", .ref pb), ("owns", .ref po), ("methods", .ref pm)]) := upd_same
        have X4 : upd G p (.ins C dx (putF "methods" (.ref pm) [("classes", .ref pc), ("bases", .ref pb), ("owns", .ref po)])) pm = some (.tup ms) := tups_upd (tt _ _ P3) (fun xs z => by cases z) _ _ hx
        have kk4 : TupK G (upd G p (.ins C dx (putF "methods" (.ref pm) [("classes", .ref pc), ("bases", .ref pb), ("owns", .ref po)]))) := tups_upd (tt _ _ P3) fun xs z => by cases z
        have T3 : TupsAt (upd G p (.ins C dx (putF "methods" (.ref pm) [("classes", .ref pc), ("bases", .ref pb), ("owns", .ref po)]))) ms (ds.map fun d => sortN d.2.2) := ((colM_tups hB).mono (Same.tupK t1)).mono kk4
        generalize hN : upd G p (.ins C dx (putF "methods" (.ref pm) [("classes", .ref pc), ("bases", .ref pb), ("owns", .ref po)])) = N4 at O4 P4 X4 kk4 T3 ⊢
        have E4 : EntsAt N4 us ds := E3.mono (O4.tupK P3)
        have R4 : N4 R = some (.lst us) := O4 _ _ hRp R3
        clear hN kk4 tt t1 t0 hx hD hB G G0
        -- elders
        have hv : validB (ds.map (·.1)) := fun c row hc b hb => by
          rw [List.getElem?_map] at hc
          obtain ⟨d, hd, rfl⟩ := Option.map_eq_some_iff.mp hc
          obtain ⟨e, _, _, _, _, _, _, _, _, ⟨_, _, z⟩, _⟩ := hok c d hd
          exact z b hb
        have hr12 : ∀ row ∈ ds.map (·.1), row.length ≤ 12 := fun row hrow => by
          obtain ⟨d, hd, rfl⟩ := List.mem_map.mp hrow
          obtain ⟨c, hc⟩ := List.mem_iff_getElem?.mp hd
          obtain ⟨e, _, _, _, _, _, _, _, _, ⟨_, z, _⟩, _⟩ := hok c d hc
          exact z
        have B4 : N4 pb = some (.tup bs) := O4.tupK P3 _ _ (O3.tupK P2 _ _ X2)
        have TB4 : TupsAt N4 bs (ds.map (·.1)) := (T1.mono (O3.tupK P2)).mono (O4.tupK P3)
        refine ⟨_, rfl, p, C, dx, _, _, rfl, P4, TC.cl, TC.no _ (List.mem_of_getElem? (i := 1) rfl), rfl, pb, bs, ds.map (·.1), rfl, B4, TB4, hv, by rw [List.length_map]; exact h12, hr12, fun G pe es' tt hx hU => ⟨_, rfl, p, C, dx, _, rfl, tt _ _ P4, TC.cl, TC.no _ (List.mem_of_getElem? (i := 4) rfl), by simp, ?_⟩⟩
        have O5 : Oth p N4 (upd G p (.ins C dx (putF "elders" (.ref pe) [("classes", .ref pc), ("bases", .ref pb), ("owns", .ref po), ("methods", .ref pm)]))) := Oth.upd (Oth.of tt)
        have P5 : upd G p (.ins C dx (putF "elders" (.ref pe) [("classes", .ref pc), ("bases", .ref pb), ("owns", .ref po), ("methods", .ref pm)])) p = some (.ins C dx [("classes", .ref pc), ("bases", .ref pb), ("owns", .ref po), ("methods", .ref pm), ("elders", .ref pe)]) := upd_same
        have X5 : upd G p (.ins C dx (putF "elders" (.ref pe) [("classes", .ref pc), ("bases", .ref pb), ("owns", .ref po), ("methods", .ref pm)])) pe = some (.tup es') := tups_upd (tt _ _ P4) (fun xs z => by cases z) _ _ hx
        have kk5 : TupK G (upd G p (.ins C dx (putF "elders" (.ref pe) [("classes", .ref pc), ("bases", .ref pb), ("owns", .ref po), ("methods", .ref pm)]))) := tups_upd (tt _ _ P4) fun xs z => by cases z
        have T4 : TupsAt (upd G p (.ins C dx (putF "elders" (.ref pe) [("classes", .ref pc), ("bases", .ref pb), ("owns", .ref po), ("methods", .ref pm)]))) es' (elders (ds.map (·.1))) := hU.mono kk5
        generalize hN : upd G p (.ins C dx (putF "elders" (.ref pe) [("classes", .ref pc), ("bases", .ref pb), ("owns", .ref po), ("methods", .ref pm)])) = N5 at O5 P5 X5 kk5 T4 ⊢
        clear hN kk5 tt hx hU G
        -- heirs
        refine ⟨_, rfl, p, C, dx, _, _, rfl, P5, TC.cl, TC.no _ (List.mem_of_getElem? (i := 4) rfl), rfl, pe, es', elders (ds.map (·.1)), rfl, X5, T4, by rw [elders_len, List.length_map]; exact h12, fun G ph hs tt hx hU => ⟨_, rfl, p, C, dx, _, rfl, tt _ _ P5, TC.cl, TC.no _ (List.mem_of_getElem? (i := 5) rfl), by simp, ?_⟩⟩
        have O6 : Oth p N5 (upd G p (.ins C dx (putF "heirs" (.ref ph) [("classes", .ref pc), ("bases", .ref pb), ("owns", .ref po), ("methods", .ref pm), ("elders", .ref pe)]))) := Oth.upd (Oth.of tt)
        have P6 : upd G p (.ins C dx (putF "heirs" (.ref ph) [("classes", .ref pc), ("bases", .ref pb), ("owns", .ref po), ("methods", .ref pm), ("elders", .ref pe)])) p = some (.ins C dx [("classes", .ref pc), ("bases", .ref pb), ("owns", .ref po), ("methods", .ref pm), ("elders", .ref pe), ("heirs", .ref ph)]) := upd_same
        have X6 : upd G p (.ins C dx (putF "heirs" (.ref ph) [("classes", .ref pc), ("bases", .ref pb), ("owns", .ref po), ("methods", .ref pm), ("elders", .ref pe)])) ph = some (.tup hs) := tups_upd (tt _ _ P5) (fun xs z => by cases z) _ _ hx
        have kk6 : TupK G (upd G p (.ins C dx (putF "heirs" (.ref ph) [("classes", .ref pc), ("bases", .ref pb), ("owns", .ref po), ("methods", .ref pm), ("elders", .ref pe)]))) := tups_upd (tt _ _ P5) fun xs z => by cases z
        have T5 : TupsAt (upd G p (.ins C dx (putF "heirs" (.ref ph) [("classes", .ref pc), ("bases", .ref pb), ("owns", .ref po), ("methods", .ref pm), ("elders", .ref pe)]))) hs (heirs (elders (ds.map (·.1)))) := hU.mono kk6
        generalize hN : upd G p (.ins C dx (putF "heirs" (.ref ph) [("classes", .ref pc), ("bases", .ref pb), ("owns", .ref po), ("methods", .ref pm), ("elders", .ref pe)])) = N6 at O6 P6 X6 kk6 T5 ⊢
        have k23 := O3.tupK P2
        have k34 := O4.tupK P3
        have k45 := O5.tupK P4
        have k56 := O6.tupK P5
        have k12 := O2.tupK P1
        have k16 : TupK N1 N6 := fun b xs e => k56 _ _ (k45 _ _ (k34 _ _ (k23 _ _ (k12 _ _ e))))
        have k26 : TupK N2 N6 := fun b xs e => k56 _ _ (k45 _ _ (k34 _ _ (k23 _ _ e)))
        have k36 : TupK N3 N6 := fun b xs e => k56 _ _ (k45 _ _ (k34 _ _ e))
        have k46 : TupK N4 N6 := fun b xs e => k56 _ _ (k45 _ _ e)
        exact k N6 ((((((O0.trans O1).trans O2).trans O3).trans O4).trans O5).trans O6) ⟨dx, pc, pb, po, pm, pe, ph, us, bs, ms, es', hs, P6, k16 _ _ C1, E1.mono k16, k26 _ _ X2, T1.mono k26, by rw [← T2]; exact k36 _ _ X3, k46 _ _ X4, T3.mono k46, k56 _ _ X5, T4.mono k56, X6, T5⟩
end
end K15

set_option maxRecDepth 100000
set_option maxHeartbeats 4000000
namespace K15
open PySem PySem.Spec PyProof.Rows L2 Kw
/-- the hand at p: its cells' list at q, the place, what is left of a great cell, the total -/
def HandAt (H : Hp) (p q : Addr) : Prop := ∃ (cs : List Int) (i r t : Int), H p = some (.lst [.ref q, .int i, .int r, .int t]) ∧ H q = some (.lst (cs.map V.int)) ∧ p ≠ q ∧
  (∀ c ∈ cs, 0 ≤ c) ∧ 0 ≤ i ∧ i ≤ (cs.length : Int) ∧ cs.length ≤ 63 ∧ 0 ≤ r ∧ 0 ≤ t ∧ t < 2147483549
def spHand (K : PySem.W.Frag) : Sp := fun vs H Q _ => ∃ (a : Addr) (ns : List Int), vs = [.ref a] ∧ SqL K H a (ns.map V.int) ∧ ns.length ≤ 63 ∧ ∀ p q H', Same H H' → H p = none → H q = none → HandAt H' p q → Q (.ref p) H'
def spMixed : Sp := fun vs H Q _ => ∃ n t : Int, vs = [.int n, .int t] ∧ 0 ≤ n ∧ n < 2147483600 ∧ 0 ≤ t ∧ t < 100 ∧ ∀ r : Int, 0 ≤ r → Q (.int r) H
def spTake : Sp := fun vs H Q _ => ∃ (p q : Addr) (m : Int), vs = [.ref p, .int m] ∧ 1 ≤ m ∧ m < 1073741824 ∧ HandAt H p q ∧ ∀ (r : Int) (H' : Hp), 0 ≤ r → r < m → HandAt H' p q → (∀ b, b ≠ p → H' b = H b) → Q (.int r) H'

theorem emod_in {a m : Int} (h : 0 < m) : 0 ≤ a % m ∧ a % m < m := ⟨Int.emod_nonneg _ (by omega), Int.emod_lt_of_pos _ h⟩
section
variable {P : Program} {w : World} {K : PySem.W.Frag} {mg : Str → Option Value} {base : Heap} {f : Addr} {fd : FuncData}
theorem scM : FnScope ["_law_number", "_law_turn", "_law_once", "_law_twice"] ["_law_number", "_law_turn"] (defScope (top 36)) := ⟨rfl, rfl, rfl, by decide +kernel, rfl, by decide +kernel, by decide +kernel⟩
theorem ok_mixed (F : FnP K "_law_mixed" 36 f fd) (gI : mg "int" = none) : FnOk P w K mg base CX0 1 f fd ["_law_number", "_law_turn"] spMixed := by
  refine F.ok scM (fun vs H Q E h => ?_) (fun cdv A outer s H vs Q E hr h => ?_)
  · obtain ⟨n, t, rfl, _⟩ := h
    rfl
  · obtain ⟨n, t, rfl, n0, n1, t0, t1, k⟩ := h
    refine ⟨_, PSs.nox (pss_cons (ps_set (i := 2) scM.nd rfl (Or.inl rfl) (pe_op op_mod (pe_callTy call_int1 (by rfl) gI PyProof.Rows.boot_int (pa_cons (pe_op op_add (pe_op op_add (pe_op op_mul (pv 0) pe_int) (pe_op op_mul (pv 1) pe_int)) pe_int) pa_nil)) pe_int))
      (pss_cons (ps_set (i := 3) scM.nd rfl (Or.inl rfl) (pe_op op_mod (pe_callTy call_int1 (by rfl) gI PyProof.Rows.boot_int (pa_cons (pe_op op_add (pe_op op_add (pe_op op_mul (pv 2) (pv 2)) (pe_op op_mul (pv 1) pe_int)) (pe_op op_fdiv (pv 2) pe_int)) pa_nil)) pe_int))
      (pss_one (ps_ret (pe_op op_fdiv (pe_callTy call_int1 (by rfl) gI PyProof.Rows.boot_int (pa_cons (pe_op op_mod (pe_callTy call_int1 (by rfl) gI PyProof.Rows.boot_int (pa_cons (pe_op op_add (pe_op op_mul (pv 3) pe_int) (pe_op op_fdiv (pv 2) pe_int)) pa_nil)) pe_int) pa_nil)) pe_int))))), ?_⟩
    refine ⟨_, rfl, _, _, rfl, rfl, .inr ⟨by decide, by decide⟩, _, rfl, _, _, rfl, rfl, .inr ⟨by decide, by decide⟩, _, _, rfl, rfl, _, _, rfl, rfl, .inl ⟨_, rfl, _, _, rfl, rfl, (by show (0 : Int) < 2147483399; decide), ?_⟩⟩
    have bo := emod_in (a := n * 48271 + t * 7919 + 30011) (m := 2147483399) (by decide)
    refine ⟨_, rfl, _, rfl, _, _, rfl, rfl, .inl ⟨by show (-(2 ^ 64) : Int) < (n * 48271 + t * 7919 + 30011) % 2147483399; omega, by show (n * 48271 + t * 7919 + 30011) % 2147483399 < (2 ^ 64 : Int); omega⟩, _, rfl, _, _, rfl, rfl, .inr ⟨by decide, by decide⟩, _, _, rfl, rfl, _, rfl, _, _, rfl, rfl, ⟨by decide, by decide⟩, _, _, rfl, rfl, .inl ⟨_, rfl, _, _, rfl, rfl, (by show (0 : Int) < 2147483629; decide), ?_⟩⟩
    refine ⟨_, rfl, _, _, rfl, rfl, .inr ⟨by decide, by decide⟩, _, rfl, _, _, rfl, rfl, ⟨by decide, by decide⟩, _, _, rfl, rfl, .inl ⟨_, rfl, _, _, rfl, rfl, (by show (0 : Int) < 2147483587; decide), .inl ⟨_, rfl, _, _, rfl, rfl, ⟨by decide, by decide⟩, ?_⟩⟩⟩
    exact k _ (Int.ediv_nonneg (emod_in (by decide)).1 (by decide))

theorem scH : FnScope ["_law_script", "_law_total", "_law_cells", "_law_cell"] ["_law_script"] (defScope (top 35)) := ⟨rfl, rfl, rfl, by decide +kernel, rfl, by decide +kernel, by decide +kernel⟩
theorem ok_hand (F : FnP K "_law_hand" 35 f fd) (gI : mg "int" = none) (gL : mg "len" = none) (gA : mg "abs" = none) : FnOk P w K mg base CX0 1 f fd ["_law_script"] (spHand K) := by
  refine F.ok scH (fun vs H Q E h => ?_) (fun cdv A outer s H vs Q E hr h => ?_)
  · obtain ⟨a, ns, rfl, _⟩ := h
    rfl
  · obtain ⟨a, ns, rfl, hS, hl, k⟩ := h
    refine ⟨_, PSs.nox (pss_cons (ps_set (i := 1) scH.nd rfl (Or.inl rfl) (pe_op op_add (pe_callB call_len_seq (by rfl) gL PySem.boot_len (pa_cons (pv 0) pa_nil)) pe_int))
      (pss_cons (ps_set (i := 2) scH.nd rfl (Or.inl rfl) (pe_lst pa_nil))
      (pss_cons (ps_for PassesOwn.never rfl (pi_list (pv 0)) (pg_name (i := 3) scH.nd rfl (Or.inl rfl))
        (pss_cons (ps_set (i := 1) scH.nd rfl (Or.inl rfl) (pe_op op_mod (pe_callTy call_int1 (by rfl) gI PyProof.Rows.boot_int (pa_cons (pe_op op_add (pe_op op_mul (pv 1) pe_int) (pe_callTy call_int1 (by rfl) gI PyProof.Rows.boot_int (pa_cons (pv 3) pa_nil))) pa_nil)) pe_int))
        (pss_one (ps_expr (pe_bm PySem.F.plainAttrs_list PySem.F.slot_list_append PySem.F.type_list_append mt_append (pv 2) (pa_cons (pe_callB call_abs (by rfl) gA PyProof.Rows.boot_abs (pa_cons (pe_callTy call_int1 (by rfl) gI PyProof.Rows.boot_int (pa_cons (pv 3) pa_nil)) pa_nil)) pa_nil))))))
      (pss_one (ps_ret (pe_lst (pa_cons (pv 2) (pa_cons pe_int (pa_cons pe_int (pa_cons (pv 1) pa_nil)))))))))), ?_⟩
    refine ⟨_, rfl, a, _, rfl, .inl hS, _, _, rfl, rfl, Nat.zero_le _, fun q hq => ?_⟩
    have sq : Same H (upd H q (.lst [])) := fun b o e => by
      rw [upd_ne (ne_of_none e hq)]
      exact e
    refine ⟨_, rfl, a, rfl, ⟨_, sq.seq hS⟩, for_list (K := K) (a := a) (xs := ns.map V.int) (fun i σ H' => ∃ (t : Int) (cs : List Int) (v : Option V), σ = [some (.ref a), some (.int t), some (.ref q), v] ∧ Same H H' ∧ H q = none ∧ H' q = some (.lst (cs.map V.int)) ∧ cs.length = i ∧ (∀ c ∈ cs, 0 ≤ c) ∧ 0 ≤ t ∧ t < 2147483549)
      ⟨_, [], none, rfl, sq, hq, upd_same, rfl, (fun c hc => by cases hc), ?_, ?_⟩ (fun i σ H' _ ⟨_, _, _, _, s, _⟩ => s.seq hS) ?_ ?_⟩
    · show (0 : Int) ≤ ((ns.map V.int).length : Int) + 37
      omega
    · show ((ns.map V.int).length : Int) + 37 < 2147483549
      rw [List.length_map]
      omega
    · rintro i y σ H' hi ⟨t, cs, v, rfl, s, hq0, hc, hln, h0, t0, t1⟩
      obtain ⟨u, rfl⟩ : ∃ u, y = V.int u := by
        rw [List.getElem?_map] at hi
        cases e : ns[i]? with
        | none =>
          rw [e] at hi
          cases hi
        | some u =>
          rw [e] at hi
          exact ⟨u, (Option.some.inj hi).symm⟩
      have hi63 : i < ns.length := by
        have z := (List.getElem?_eq_some_iff.mp hi).1
        rw [List.length_map] at z
        exact z
      refine ⟨_, rfl, _, _, rfl, rfl, .inr ⟨by decide, by decide⟩, _, rfl, .inl ⟨_, rfl, _, _, rfl, rfl, .inl ⟨_, rfl, _, _, rfl, rfl, (by show (0 : Int) < 2147483549; decide), ?_⟩⟩⟩
      have bt := emod_in (a := t * 1709 + u) (m := 2147483549) (by decide)
      refine ⟨_, rfl, .inl ⟨rfl, _, SqL.of hc⟩, _, rfl, .inl ⟨_, rfl, _, rfl, q, _, _, rfl, rfl, hc, ?_, ?_⟩⟩
      · rw [List.length_map]
        exact small1000 (by omega)
      · refine ⟨_, cs ++ [if u < 0 then -u else u], _, rfl, fun b o e => ?_, hq0, ?_, ?_, ?_, bt.1, bt.2⟩
        · rw [upd_ne (ne_of_none e hq0)]
          exact s b o e
        · rw [upd_same, List.map_append]
          rfl
        · rw [List.length_append, hln]
          rfl
        · intro c hc'
          rcases List.mem_append.mp hc' with z | z
          · exact h0 c z
          · rw [List.mem_singleton.mp z]
            split <;> omega
    · rintro σ H' ⟨t, cs, v, rfl, s, hq0, hc, hln, h0, t0, t1⟩
      refine ⟨_, rfl, _, rfl, (by show 4 ≤ sizeLine; decide), fun p hp => ?_⟩
      have npq : p ≠ q := fun z => by
        rw [z, hc] at hp
        cases hp
      have hln' : cs.length = ns.length := by
        rw [hln, List.length_map]
      refine k p q _ (fun b o e => ?_) (s.free hp) hq0 ⟨cs, 0, 0, t, upd_same, by rw [upd_ne npq.symm]; exact hc, npq, h0, Int.le_refl _, by omega, by omega, Int.le_refl _, t0, t1⟩
      rw [upd_ne (ne_of_none (s b o e) hp)]
      exact s b o e
end
theorem at4 {a b c d : V} : atI [a, b, c, d] 0 = some a ∧ atI [a, b, c, d] 1 = some b ∧ atI [a, b, c, d] 2 = some c ∧ atI [a, b, c, d] 3 = some d := ⟨rfl, rfl, rfl, rfl⟩
theorem vint {a b : Int} (h : decide (V.int a = V.int b) = true) : a = b := V.int.inj (of_decide_eq_true h)
theorem dec_t {c : Prop} [Decidable c] (h : decide c = true) : c := of_decide_eq_true h
theorem dec_f {c : Prop} [Decidable c] (h : ¬ decide c = true) : ¬ c := fun z => h (decide_eq_true z)
section
variable {P : Program} {w : World} {K : PySem.W.Frag} {mg : Str → Option Value} {base : Heap} {f fM : Addr} {fd fdM : FuncData}
theorem scT : FnScope ["_law_hand_here", "_law_many", "_law_cell", "_law_rest"] ["_law_hand_here", "_law_many"] (defScope (top 37)) := ⟨rfl, rfl, rfl, by decide +kernel, rfl, by decide +kernel, by decide +kernel⟩
theorem ok_take (F : FnP K "_law_take" 37 f fd) (FM : FnP K "_law_mixed" 36 fM fdM) (mM : mg "_law_mixed" = some (.ref fM)) (gI : mg "int" = none) (gL : mg "len" = none) : FnOk P w K mg base CX0 2 f fd ["_law_hand_here", "_law_many"] spTake := by
  have GM : FnOk P w K mg base CX0 1 fM fdM ["_law_number", "_law_turn"] spMixed := ok_mixed FM gI
  have bM : Binds K fdM ["_law_number", "_law_turn"] [] := FM.bindsN fun _ _ _ _ _ _ us hl => match us, hl with | [_, _], _ => rfl
  refine F.ok scT (fun vs H Q E h => ?_) (fun cdv A outer s H vs Q E hr h => ?_)
  · obtain ⟨n, q, t, rfl, _⟩ := h
    rfl
  · obtain ⟨p, q, m, rfl, m1, m2, hh, k⟩ := h
    refine ⟨_, PSs.nox (C8.pss_cut (ps_if (PW.pt (pw_and (pt_cmpR op_eq (pe_ix ix_list (pv 0) pe_int (fun _ _ => rfl)) pe_int (nomark _)) (pw_and1 (pt_cmpR op_lt (pe_ix ix_list (pv 0) pe_int (fun _ _ => rfl)) (pe_callB call_len_seq (by rfl) gL PySem.boot_len (pa_cons (pe_ix ix_list (pv 0) pe_int (fun _ _ => rfl)) pa_nil)) (nomark _)))))
        (pss_cons (ps_set (i := 2) scT.nd rfl (Or.inl rfl) (pe_ix ix_list (pe_ix ix_list (pv 0) pe_int (fun _ _ => rfl)) (pe_ix ix_list (pv 0) pe_int (fun _ _ => rfl)) (fun _ _ => rfl)))
        (pss_cons (ps_asg (pe_op op_add (pe_ix ix_list (pv 0) pe_int (fun _ _ => rfl)) pe_int) (pg_sub (pv 0) pe_int set_list (fun _ => rfl)))
        (pss_cons (ps_if (pt_cmpR op_lt (pv 2) (pe_op op_pow pe_int pe_int) (nomark _))
            (pss_one (ps_ret (pe_op op_mod (pe_callTy call_int1 (by rfl) gI PyProof.Rows.boot_int (pa_cons (pe_call GM hr rfl mM FM.kp bM .nil pass0 (pa_cons (pe_op op_mod (pe_callTy call_int1 (by rfl) gI PyProof.Rows.boot_int (pa_cons (pv 2) pa_nil)) pe_int) (pa_cons (pe_ix ix_list (pv 0) pe_int (fun _ _ => rfl)) pa_nil))) pa_nil)) (pv 1)))) pss_nil)
        (pss_one (ps_asg (pv 2) (pg_sub (pv 0) pe_int set_list (fun _ => rfl))))))) pss_nil)
      (C8.pss_cut (ps_if (pt_cmpR op_gt (pe_ix ix_list (pv 0) pe_int (fun _ _ => rfl)) pe_int (nomark _))
        (pss_cons (ps_set (i := 3) scT.nd rfl (Or.inl rfl) (pe_ix ix_list (pv 0) pe_int (fun _ _ => rfl)))
        (pss_cons (ps_asg (pe_op op_fdiv (pe_callTy call_int1 (by rfl) gI PyProof.Rows.boot_int (pa_cons (pv 3) pa_nil)) (pv 1)) (pg_sub (pv 0) pe_int set_list (fun _ => rfl)))
        (pss_one (ps_ret (pe_op op_mod (pe_callTy call_int1 (by rfl) gI PyProof.Rows.boot_int (pa_cons (pv 3) pa_nil)) (pv 1)))))) pss_nil)
      (pss_cons (ps_asg (pe_op op_mod (pe_callTy call_int1 (by rfl) gI PyProof.Rows.boot_int (pa_cons (pe_op op_add (pe_ix ix_list (pv 0) pe_int (fun _ _ => rfl)) pe_int) pa_nil)) pe_int) (pg_sub (pv 0) pe_int set_list (fun _ => rfl)))
      (pss_one (ps_ret (pe_op op_mod (pe_callTy call_int1 (by rfl) gI PyProof.Rows.boot_int (pa_cons (pe_call GM hr rfl mM FM.kp bM .nil pass0 (pa_cons (pe_ix ix_list (pv 0) pe_int (fun _ _ => rfl)) (pa_cons (pe_ix ix_list (pv 0) pe_int (fun _ _ => rfl)) pa_nil))) pa_nil)) (pv 1))))))), ?_⟩
    -- between the statements: some hand stands at p, nothing else has changed
    let Mid : L2.St → Hp → Prop := fun σ H' => ∃ c d, σ = [some (.ref p), some (.int m), c, d] ∧ HandAt H' p q ∧ ∀ b, b ≠ p → H' b = H b
    have setH : ∀ {H' : Hp} {cs : List Int} {i r t : Int}, H' q = some (.lst (cs.map V.int)) → p ≠ q → (∀ c ∈ cs, 0 ≤ c) → 0 ≤ i → i ≤ (cs.length : Int) → cs.length ≤ 63 → 0 ≤ r → 0 ≤ t → t < 2147483549 →
        HandAt (upd H' p (.lst [.ref q, .int i, .int r, .int t])) p q := fun hq npq h0 i0 i1 l r0 t0 t1 => ⟨_, _, _, _, upd_same, by rw [upd_ne npq.symm]; exact hq, npq, h0, i0, i1, l, r0, t0, t1⟩
    have setB : ∀ {H' : Hp} {o : HO}, (∀ b, b ≠ p → H' b = H b) → ∀ b, b ≠ p → upd H' p o b = H b := fun h b hb => by rw [upd_ne hb]; exact h b hb
    refine ⟨Mid, ?_, ?_⟩
    · obtain ⟨cs, i, r, t, hp, hq, npq, h0, i0, i1, hl, r0, t0, t1⟩ := id hh
      refine ⟨_, rfl, p, _, _, _, rfl, rfl, SqL.of hp, at4.2.2.1, rfl, _, rfl, ?_⟩
      refine ite2 (fun e => ?_) (fun _ => iteF ⟨_, _, rfl, hh, fun b _ => rfl⟩)
      refine ⟨_, rfl, p, _, _, _, rfl, rfl, SqL.of hp, at4.2.1, _, rfl, p, _, _, _, rfl, rfl, SqL.of hp, at4.1, q, _, rfl, .inl (SqL.of hq), _, _, rfl, rfl, _, rfl, ?_⟩
      refine ite2 (fun e2 => ?_) (fun _ => ⟨_, _, rfl, hh, fun b _ => rfl⟩)
      have il : i < ((cs.map V.int).length : Int) := dec_t e2
      rw [List.length_map] at il
      obtain ⟨j, rfl⟩ : ∃ j : Nat, i = (j : Int) := ⟨i.toNat, by omega⟩
      have jl : j < cs.length := by omega
      have hc : (cs.map V.int)[j]? = some (V.int cs[j]) := by
        rw [List.getElem?_map, List.getElem?_eq_getElem jl]
        rfl
      have c0 := h0 _ (List.getElem_mem jl)
      generalize cs[j] = c at hc c0
      refine ⟨_, rfl, p, _, _, _, rfl, rfl, SqL.of hp, at4.1, _, rfl, p, _, _, _, rfl, rfl, SqL.of hp, at4.2.1, q, _, _, _, rfl, rfl, SqL.of hq, atI_nat hc, ?_⟩
      refine ⟨_, rfl, p, _, _, _, rfl, rfl, SqL.of hp, at4.2.1, _, _, rfl, rfl, _, rfl, p, _, _, 1, rfl, rfl, hp, rfl, ?_⟩
      have hh1 : HandAt (upd H p (.lst [.ref q, .int ((j : Int) + 1), .int r, .int t])) p q := setH hq npq h0 (by omega) (by omega) hl r0 t0 t1
      refine ⟨_, rfl, _, _, rfl, rfl, ⟨by decide, by decide, by decide⟩, _, _, rfl, rfl, _, rfl, ?_⟩
      refine ite2 (fun _ => ?_) (fun _ => ?_)
      · refine ⟨_, rfl, .inl ⟨_, rfl, _, _, rfl, rfl, (by show (0 : Int) < 2147483399; decide), _, rfl, p, _, _, _, rfl, rfl, SqL.of upd_same, at4.2.1, ?_⟩⟩
        have b := emod_in (a := c) (m := 2147483399) (by decide)
        refine ⟨_, _, rfl, b.1, by omega, by omega, by omega, fun x x0 => .inl ⟨_, rfl, _, rfl, _, _, rfl, rfl, (by show (0 : Int) < m; omega), ?_⟩⟩
        have bm := emod_in (a := x) (m := m) (by omega)
        exact k _ _ bm.1 bm.2 hh1 (setB fun b _ => rfl)
      · refine ⟨_, rfl, _, rfl, p, _, _, 2, rfl, rfl, upd_same, rfl, ?_⟩
        rw [upd_upd]
        exact ⟨_, _, rfl, setH hq npq h0 (by omega) (by omega) hl c0 t0 t1, setB fun b _ => rfl⟩
    · rintro σ H1 ⟨c, d, rfl, hh1, hb1⟩
      refine ⟨Mid, ?_, ?_⟩
      · obtain ⟨cs, i, r, t, hp, hq, npq, h0, i0, i1, hl, r0, t0, t1⟩ := id hh1
        refine ⟨_, rfl, p, _, _, _, rfl, rfl, SqL.of hp, at4.2.2.1, _, _, rfl, rfl, _, rfl, ?_⟩
        refine ite2 (fun e => ?_) (fun _ => ⟨_, _, rfl, hh1, hb1⟩)
        refine ⟨_, rfl, p, _, _, _, rfl, rfl, SqL.of hp, at4.2.2.1, _, rfl, .inl ⟨_, rfl, _, rfl, _, _, rfl, rfl, ⟨by show (0 : Int) < m; omega, m2⟩, _, rfl, p, _, _, 2, rfl, rfl, hp, rfl, _, rfl, .inl ⟨_, rfl, _, rfl, _, _, rfl, rfl, (by show (0 : Int) < m; omega), ?_⟩⟩⟩
        have bm := emod_in (a := r) (m := m) (by omega)
        exact k _ _ bm.1 bm.2 (setH hq npq h0 i0 i1 hl (Int.ediv_nonneg r0 (by omega)) t0 t1) (setB hb1)
      · rintro σ H2 ⟨c, d, rfl, hh2, hb2⟩
        obtain ⟨cs, i, r, t, hp, hq, npq, h0, i0, i1, hl, r0, t0, t1⟩ := id hh2
        refine ⟨_, rfl, p, _, _, _, rfl, rfl, SqL.of hp, at4.2.2.2, _, _, rfl, rfl, .inl ⟨_, rfl, _, _, rfl, rfl, (by show (0 : Int) < 2147483549; decide), _, rfl, p, _, _, 3, rfl, rfl, hp, rfl, ?_⟩⟩
        have bt := emod_in (a := t + 1) (m := 2147483549) (by decide)
        refine ⟨_, rfl, p, _, _, _, rfl, rfl, SqL.of upd_same, at4.2.2.2, _, rfl, p, _, _, _, rfl, rfl, SqL.of upd_same, at4.2.1, _, _, rfl, bt.1, by omega, i0, by omega, fun x x0 => .inl ⟨_, rfl, _, rfl, _, _, rfl, rfl, (by show (0 : Int) < m; omega), ?_⟩⟩
        have bm := emod_in (a := x) (m := m) (by omega)
        exact k _ _ bm.1 bm.2 (setH hq npq h0 i0 i1 hl r0 bt.1 bt.2) (setB hb2)
end
end K15

set_option maxRecDepth 100000
set_option maxHeartbeats 4000000
namespace K15
open PySem PySem.Spec PyProof.Rows L2 Kw
theorem HandAt.keep {H H' : Hp} {p q : Addr} (h : HandAt H p q) (s : ∀ b, b = p ∨ b = q → ∀ o, H b = some o → H' b = some o) : HandAt H' p q := by
  obtain ⟨cs, i, r, t, h1, h2, h3⟩ := h
  exact ⟨cs, i, r, t, s p (.inl rfl) _ h1, s q (.inr rfl) _ h2, h3⟩
theorem HandAt.same {H H' : Hp} {p q : Addr} (h : HandAt H p q) (s : Same H H') : HandAt H' p q := h.keep fun b _ o e => s b o e
theorem HandAt.ne {H : Hp} {p q l : Addr} (h : HandAt H p q) (hl : H l = none) : l ≠ p ∧ l ≠ q := by
  obtain ⟨cs, i, r, t, h1, h2, h3⟩ := h
  exact ⟨fun z => (by rw [z, h1] at hl; cases hl), fun z => (by rw [z, h2] at hl; cases hl)⟩
theorem HandAt.upd {H : Hp} {p q l : Addr} {o : HO} (h : HandAt H p q) (hp : l ≠ p) (hq : l ≠ q) : HandAt (upd H l o) p q := h.keep fun b hb u e => by
  refine upB (fun z => ?_) e
  rcases hb with hb | hb
  · exact hp (z ▸ hb)
  · exact hq (z ▸ hb)
theorem tab_at {tab : List Int} {r : Int} (h0 : 0 ≤ r) (h1 : r < (tab.length : Int)) : ∃ v, atI (tab.map V.int) r = some (V.int v) ∧ v ∈ tab := by
  obtain ⟨j, rfl⟩ : ∃ j : Nat, r = (j : Int) := ⟨r.toNat, by omega⟩
  have hj : j < tab.length := by omega
  exact ⟨tab[j], atI_nat (by rw [List.getElem?_map, List.getElem?_eq_getElem hj]; rfl), List.getElem_mem hj⟩
section
variable {P : Program} {w : World} {K : PySem.W.Frag} {mg : Str → Option Value} {base : Heap} {f fT fM : Addr} {fd fdT fdM : FuncData}
def spBases : Sp := fun vs H Q _ => ∃ (p q : Addr) (c : Nat), vs = [.ref p, .int (c : Int)] ∧ c ≤ 12 ∧ HandAt H p q ∧
  ∀ l H' (bs : List Nat), Oth p H H' → HandAt H' p q → H l = none → H' l = some (.lst (bs.map natV)) → bs.Nodup → (∀ b ∈ bs, b < c) → bs.length ≤ 3 → Q (.ref l) H'
theorem sc_bases : FnScope ["_law_hand_here", "_law_c", "_law_bases_here", "_law_step", "_law_base"] ["_law_hand_here", "_law_c"] (defScope (top 38)) := ⟨rfl, rfl, rfl, by decide +kernel, rfl, by decide +kernel, by decide +kernel⟩
theorem ok_bases (F : FnP K "_law_bases" 38 f fd) (B : Fr mg) (FT : FnP K "_law_take" 37 fT fdT) (mT : mg "_law_take" = some (.ref fT)) (FM : FnP K "_law_mixed" 36 fM fdM) (mM : mg "_law_mixed" = some (.ref fM)) :
    FnOk P w K mg base CX0 3 f fd ["_law_hand_here", "_law_c"] spBases := by
  have GT : FnOk P w K mg base CX0 2 fT fdT ["_law_hand_here", "_law_many"] spTake := ok_take FT FM mM B.int B.len
  have bT : L2.Binds K fdT ["_law_hand_here", "_law_many"] [] := FT.bindsN fun _ _ _ _ _ _ us hl => match us, hl with | [_, _], _ => rfl
  refine F.ok sc_bases (fun vs H Q E h => ?_) (fun cdv A outer s H vs Q E hr h => ?_)
  · obtain ⟨p, q, c, rfl, _⟩ := h
    rfl
  · obtain ⟨p, q, c, rfl, hc, hh, k⟩ := h
    refine ⟨_, PSs.nox (pss_cons (ps_set (i := 2) sc_bases.nd rfl (Or.inl rfl) (pe_lst pa_nil))
      (pss_cons (ps_for PassesOwn.never rfl (pi_range1 (by rfl) B.range (pa_cons (pe_ix ix_tup (pe_tup (pa_cons pe_int (pa_cons pe_int (pa_cons pe_int (pa_cons pe_int (pa_cons pe_int (pa_cons pe_int (pa_cons pe_int (pa_cons pe_int pa_nil))))))))) (pe_call GT hr (by rfl) mT FT.kp bT .nil pass0 (pa_cons (pv 0) (pa_cons pe_int pa_nil))) (fun _ _ => rfl)) pa_nil)) (pg_name (i := 3) sc_bases.nd rfl (Or.inl rfl))
        (pss_one (ps_if (pt_cmpR op_gt (pv 1) pe_int (nomark _))
          (pss_cons (ps_set (i := 4) sc_bases.nd rfl (Or.inl rfl) (pe_call GT hr (by rfl) mT FT.kp bT .nil pass0 (pa_cons (pv 0) (pa_cons (pv 1) pa_nil))))
          (pss_one (ps_if (pt_cmpR (r := rIn K true) op_notIn_seq (pv 4) (pv 2) (by rfl)) (pss_one (ps_expr (pe_bm PySem.F.plainAttrs_list PySem.F.slot_list_append PySem.F.type_list_append mt_append (pv 2) (pa_cons (pv 4) pa_nil)))) pss_nil))) pss_nil)))
      (pss_one (ps_ret (pv 2))))), ?_⟩
    refine ⟨by decide, fun l hl => ?_⟩
    obtain ⟨lp, lq⟩ := hh.ne hl
    have h1 : HandAt (upd H l (.lst [])) p q := hh.upd lp lq
    refine ⟨by (show 8 ≤ sizeLine); decide, fun t ht => ?_⟩
    obtain ⟨tp, tq⟩ := h1.ne ht
    have tl : t ≠ l := fun z => by
      rw [z, upd_same] at ht
      cases ht
    refine ⟨_, rfl, p, q, 8, rfl, by decide, by decide, h1.upd tp tq, fun r H2 r0 r1 h2 e2 => ?_⟩
    obtain ⟨v, hv, hm⟩ := tab_at (tab := [0, 1, 1, 2, 2, 2, 3, 1]) r0 r1
    have hv3 : 0 ≤ v ∧ v ≤ 3 := (by decide : ∀ v ∈ ([0, 1, 1, 2, 2, 2, 3, 1] : List Int), 0 ≤ v ∧ v ≤ 3) v hm
    have T2 : H2 t = some (.tup (([0, 1, 1, 2, 2, 2, 3, 1] : List Int).map V.int)) := by
      rw [e2 t tp]
      exact upd_same
    have O2 : Oth p H H2 := fun b o nb e => by
      rw [e2 b nb]
      exact upB (ne_of_none (upB (ne_of_none e hl) e) ht) (upB (ne_of_none e hl) e)
    have L2' : H2 l = some (.lst []) := by
      rw [e2 l lp]
      exact upB tl.symm upd_same
    refine ⟨t, _, r, _, rfl, rfl, SqT.of T2, hv, v, rfl, by omega, by omega, for_range (n := v.toNat) (fun i σ H' => ∃ (bs : List Nat) (x3 x4 : Option V), σ = [some (.ref p), some (.int (c : Int)), some (.ref l), x3, x4] ∧ HandAt H' p q ∧ Oth p H H' ∧ H' l = some (.lst (bs.map natV)) ∧ bs.Nodup ∧ (∀ b ∈ bs, b < c) ∧ bs.length ≤ i)
      ⟨[], none, none, rfl, h2, O2, L2', List.nodup_nil, fun b hb => (by cases hb), Nat.le_refl _⟩ ?_ ?_⟩
    · rintro i σ H3 hi ⟨bs, x3, x4, rfl, h3, O3, L3, nd, hb, hl3⟩
      refine ⟨_, rfl, _, _, rfl, rfl, _, rfl, ?_⟩
      refine ite2 (fun e => ?_) (fun _ => ⟨bs, _, _, rfl, h3, O3, L3, nd, hb, by omega⟩)
      have c0 : (0 : Int) < (c : Int) := of_decide_eq_true e
      refine ⟨_, rfl, _, rfl, p, q, (c : Int), rfl, by omega, by omega, h3, fun r H4 r0 r1 h4 e4 => ?_⟩
      obtain ⟨b, rfl⟩ : ∃ b : Nat, r = (b : Int) := ⟨r.toNat, by omega⟩
      have L4 : H4 l = some (.lst (bs.map natV)) := by
        rw [e4 l lp]
        exact L3
      have O4 : Oth p H H4 := fun a o na e => by
        rw [e4 a na]
        exact O3 a o na e
      refine ⟨_, rfl, _, rfl, l, _, rfl, .inl (SqL.of L4), rfl, flat_nats bs, _, rfl, ?_⟩
      have ein : inV (.int (b : Int)) (bs.map natV) = bs.contains b := inV_nat b bs
      show (if (!inV (.int (b : Int)) (bs.map natV)) = true then _ else _)
      rw [ein]
      cases hbc : bs.contains b with
      | true => exact iteF ⟨bs, _, _, rfl, h4, O4, L4, nd, hb, by omega⟩
      | false =>
        have nb : b ∉ bs := fun z => by
          rw [List.contains_iff_mem.mpr z] at hbc
          cases hbc
        refine iteT ⟨_, rfl, .inl ⟨rfl, _, SqL.of L4⟩, _, rfl, l, _, _, rfl, rfl, L4, ?_, bs ++ [b], _, _, rfl, h4.upd lp lq, fun a o na e => upB (ne_of_none e hl) (O4 a o na e), ?_, ?_, ?_, ?_⟩
        · rw [List.length_map]
          show _ < 2 ^ 24
          omega
        · rw [upd_same, List.map_append]
          rfl
        · refine List.nodup_append.mpr ⟨nd, by simp, fun a ha b' hb' z => nb ?_⟩
          rw [List.mem_singleton.mp hb'] at z
          exact z ▸ ha
        · intro a ha
          rcases List.mem_append.mp ha with ha | ha
          · exact hb a ha
          · rw [List.mem_singleton.mp ha]
            omega
        · rw [List.length_append]
          simp only [List.length_cons, List.length_nil]
          omega
    · rintro σ H3 ⟨bs, x3, x4, rfl, h3, O3, L3, nd, hb, hl3⟩
      exact ⟨_, rfl, k l H3 bs O3 h3 hl L3 nd hb (by omega)⟩
end
end K15

set_option maxRecDepth 100000
set_option maxHeartbeats 4000000
namespace K15
open PySem PySem.Spec PyProof.Rows L2 Kw
/-- list(xs) -/
def rListOf (K : PySem.W.Frag) : List V → Hp → VK → Prop := fun xs H Q => ∃ p ys, xs = [.ref p] ∧ (SqL K H p ys ∨ SqT K H p ys) ∧ ∀ l, H l = none → Q (.ref l) (upd H l (.lst ys))
theorem call_lst {X : Cx} : CallR X (.type "list") (rListOf X.K) := call_list_of
end K15

set_option maxRecDepth 100000
set_option maxHeartbeats 4000000
namespace K15
open PySem PySem.Spec PyProof.Rows L2 Kw
section
variable {P : Program} {w : World} {K : PySem.W.Frag} {mg : Str → Option Value} {base : Heap} {f fT fM : Addr} {fd fdT fdM : FuncData}
def spRow : Sp := fun vs H Q _ => ∃ (p q a : Addr) (xs : List V), vs = [.ref p, .ref a] ∧ HandAt H p q ∧ a ≠ p ∧ SeqAt H a xs ∧
  ∀ l H', Oth p H H' → HandAt H' p q → ((H l = none ∧ H' l = some (.lst xs)) ∨ H' l = some (.tup xs)) → Q (.ref l) H'
theorem sc_row : FnScope ["_law_hand_here", "_law_items"] ["_law_hand_here", "_law_items"] (defScope (top 43)) := ⟨rfl, rfl, rfl, by decide +kernel, rfl, by decide +kernel, by decide +kernel⟩
theorem ok_row (F : FnP K "_law_row" 43 f fd) (B : Fr mg) (FT : FnP K "_law_take" 37 fT fdT) (mT : mg "_law_take" = some (.ref fT)) (FM : FnP K "_law_mixed" 36 fM fdM) (mM : mg "_law_mixed" = some (.ref fM)) :
    FnOk P w K mg base CX0 3 f fd ["_law_hand_here", "_law_items"] spRow := by
  have GT : FnOk P w K mg base CX0 2 fT fdT ["_law_hand_here", "_law_many"] spTake := ok_take FT FM mM B.int B.len
  have bT : L2.Binds K fdT ["_law_hand_here", "_law_many"] [] := FT.bindsN fun _ _ _ _ _ _ us hl => match us, hl with | [_, _], _ => rfl
  refine F.ok sc_row (fun vs H Q E h => ?_) (fun cdv A outer s H vs Q E hr h => ?_)
  · obtain ⟨p, q, a, xs, rfl, _⟩ := h
    rfl
  · obtain ⟨p, q, a, xs, rfl, hh, hap, hA, k⟩ := h
    refine ⟨_, PSs.nox (pss_one (ps_ret (pe_ifExp (pt_truth (pe_call GT hr (by rfl) mT FT.kp bT .nil pass0 (pa_cons (pv 0) (pa_cons pe_int pa_nil))) (by intro _; rfl))
      (pe_callTy (T := "list") (r := rListOf K) (call_lst (X := _)) (by rfl) B.list (by decide +kernel) (pa_cons (pv 1) pa_nil))
      (pe_callTy (T := "tuple") (r := rTupOf K) (call_tup (X := _)) (by rfl) B.tuple (by decide +kernel) (pa_cons (pv 1) pa_nil))))), ?_⟩
    refine ⟨_, rfl, p, q, 2, rfl, by decide, by decide, hh, fun r H2 r0 r1 h2 e2 => ?_⟩
    have A2 : SeqAt H2 a xs := by
      rcases hA with hA | hA
      · exact .inl ((e2 a hap).trans hA)
      · exact .inr ((e2 a hap).trans hA)
    have O2 : Oth p H H2 := fun b o nb e => (e2 b nb).trans e
    refine ⟨r != 0, rfl, ?_⟩
    cases hr0 : (r != 0) with
    | true =>
      refine iteT ⟨_, rfl, a, xs, rfl, A2.sq, fun l hl => ?_⟩
      obtain ⟨lp, lq⟩ := h2.ne hl
      refine k l _ (O2.trans (Oth.of (same_new hl))) (h2.upd lp lq) (.inl ⟨?_, upd_same⟩)
      rw [← e2 l lp]
      exact hl
    | false =>
      refine iteF ⟨_, rfl, ?_⟩
      refine tup_q A2 fun l H3 s3 hl => k l _ (O2.trans (Oth.of s3)) (h2.same s3) (.inr hl)
end
end K15

set_option maxRecDepth 100000
set_option maxHeartbeats 4000000
namespace K15
open PySem PySem.Spec PyProof.Rows L2 Kw
/-- rows (bases, fields, methods) of a law's own -/
def RowsAt (H : Hp) : List V → List (List Nat) → Prop := Paired fun v bs => ∃ t b g m, v = .ref t ∧ H t = some (.tup [.ref b, g, m]) ∧ SeqAt H b (bs.map natV)
theorem RowsAt.same {H H' : Hp} (s : Same H H') : ∀ {vs : List V} {ls : List (List Nat)}, RowsAt H vs ls → RowsAt H' vs ls
  | [], [], _ => .nil
  | _ :: _, _ :: _, .cons ⟨t, b, g, m, e, h1, h2⟩ r => .cons ⟨t, b, g, m, e, s _ _ h1, h2.same s⟩ (RowsAt.same s r)
theorem RowsAt.get {H : Hp} : ∀ {vs : List V} {ls : List (List Nat)} {i : Nat} {l : List Nat}, RowsAt H vs ls → ls[i]? = some l → ∃ t b g m, vs[i]? = some (.ref t) ∧ H t = some (.tup [.ref b, g, m]) ∧ SeqAt H b (l.map natV)
  | [], [], _, _, _, h => by simp at h
  | _ :: _, _ :: _, 0, _, .cons ⟨t, b, g, m, e1, h⟩ _, e => by
    obtain rfl := Option.some.inj e
    exact ⟨t, b, g, m, by rw [e1]; rfl, h⟩
  | _ :: _, _ :: _, i + 1, _, .cons _ r, e => RowsAt.get (i := i) r e
def ListsAt (H : Hp) : List V → List (List Nat) → Prop := Paired fun v l => ∃ t, v = .ref t ∧ H t = some (.lst (l.map natV))
theorem ListsAt.mono {H H' : Hp} {R : Addr} (k : ∀ b o, b ≠ R → H b = some o → H' b = some o) : ∀ {vs : List V} {ls : List (List Nat)}, (∀ v ∈ vs, v ≠ .ref R) → ListsAt H vs ls → ListsAt H' vs ls
  | [], [], _, _ => .nil
  | v :: _, _ :: _, n, .cons ⟨t, e, h⟩ r => .cons ⟨t, e, k _ _ (fun z => n v List.mem_cons_self (by rw [e, z])) h⟩ (ListsAt.mono k (fun v hv => n v (List.mem_cons_of_mem _ hv)) r)
theorem ListsAt.get {H : Hp} : ∀ {vs : List V} {ls : List (List Nat)} {i : Nat} {l : List Nat}, ListsAt H vs ls → ls[i]? = some l → ∃ t, vs[i]? = some (.ref t) ∧ H t = some (.lst (l.map natV))
  | [], [], _, _, _, h => by simp at h
  | _ :: _, _ :: _, 0, _, .cons ⟨t, e1, h⟩ _, e => by
    obtain rfl := Option.some.inj e
    exact ⟨t, by rw [e1]; rfl, h⟩
  | _ :: _, _ :: _, i + 1, _, .cons _ r, e => ListsAt.get (i := i) r e
theorem ListsAt.app {H : Hp} : ∀ {vs us : List V} {ls ms : List (List Nat)}, ListsAt H vs ls → ListsAt H us ms → ListsAt H (vs ++ us) (ls ++ ms)
  | [], _, [], _, _, h => h
  | _ :: _, _, _ :: _, _, .cons h r, s => .cons h (ListsAt.app r s)
theorem ListsAt.len {H : Hp} {vs : List V} {ls : List (List Nat)} (h : ListsAt H vs ls) : vs.length = ls.length := Paired.length h
/-- ascending lists with the same things in them -/
theorem asc_one {a : List Int} {b : List Nat} (ha : a.Pairwise (· < ·)) (hb : b.Pairwise (· < ·)) (hm : ∀ k : Int, k ∈ a ↔ ∃ n : Nat, n ∈ b ∧ k = (n : Int)) : a.map V.int = b.map natV := by
  have hb2 : (b.map fun (n : Nat) => (n : Int)).Pairwise (· < ·) := List.pairwise_map.mpr (hb.imp fun h => by omega)
  have p : a.Perm (b.map fun (n : Nat) => (n : Int)) := (List.perm_ext_iff_of_nodup (ha.imp fun h => Int.ne_of_lt h) (hb2.imp fun h => Int.ne_of_lt h)).mpr fun k => by
    rw [hm k, List.mem_map]
    exact ⟨fun ⟨n, h, e⟩ => ⟨n, h, e.symm⟩, fun ⟨n, h, e⟩ => ⟨n, h, e.symm⟩⟩
  have e : a = b.map fun (n : Nat) => (n : Int) := p.eq_of_pairwise (fun x y _ _ h1 h2 => by omega) ha hb2
  rw [e, List.map_map]
  rfl
section
variable {P : Program} {w : World} {K : PySem.W.Frag} {mg : Str → Option Value} {base : Heap} {f : Addr} {fd : FuncData}
/-- over a list or a tuple that stands -/
theorem for_seqS {a : Addr} {xs : List V} {g : TG} {tb : TS} {D : Ends} {σ : L2.St} {H H0 : Hp} {j : Nat} (hj : σ[j]? = some (some (.ref a))) (hA : SeqAt H0 a xs) (s0 : Same H0 H) (Pv : Nat → L2.St → Hp → Prop) (h0 : Pv 0 σ H) (keep : ∀ i σ' H', Pv i σ' H' → Same H0 H')
    (hs : ∀ i x σ H, xs[i]? = some x → Pv i σ H → g x σ H fun σ2 H2 => tb { D with nx := Pv (i + 1), ct := Pv (i + 1), bk := D.nx } σ2 H2) (hd : ∀ σ H, Pv xs.length σ H → D.nx σ H) :
    tFor (fun σ H R => iList K (tVar j) σ H R ∨ iTup K (tVar j) σ H R) g tb D σ H := by
  rcases hA with hA | hA
  · exact .inl ⟨_, hj, a, rfl, ⟨_, SqL.of (s0 _ _ hA)⟩, for_list (K := K) (a := a) (xs := xs) Pv h0 (fun i σ H' _ h => SqL.of (keep i σ H' h _ _ hA)) hs hd⟩
  · exact .inr ⟨_, hj, a, rfl, ⟨_, SqT.of (s0 _ _ hA)⟩, for_tup (K := K) (a := a) (xs := xs) Pv h0 (fun i σ H' _ h => SqT.of (keep i σ H' h _ _ hA)) hs hd⟩
def spLElders : Sp := fun vs H Q _ => ∃ (a : Addr) (ws : List V) (bs : List (List Nat)), vs = [.ref a] ∧ H a = some (.lst ws) ∧ RowsAt H ws bs ∧ validB bs ∧ bs.length ≤ 64 ∧ (∀ row ∈ bs, row.length * bs.length < 64) ∧
  ∀ H' l us, Same H H' → H l = none → H' l = some (.lst us) → (∀ v ∈ us, v ≠ .ref l) → ListsAt H' us (elders bs) → Q (.ref l) H'
theorem sc_lelders : FnScope ["_law_rows", "_law_found", "_law_bases_here", "_law_fields", "_law_methods_here", "_law_mine", "_law_base"] ["_law_rows"] (defScope (top 42)) := ⟨rfl, rfl, rfl, by decide +kernel, rfl, by decide +kernel, by decide +kernel⟩
theorem ok_lelders (F : FnP K "_law_elders" 42 f fd) (B : Fr mg) : FnOk P w K mg base CX0 1 f fd ["_law_rows"] spLElders := by
  refine F.ok sc_lelders (fun vs H Q E h => ?_) (fun cdv A outer s H vs Q E hr h => ?_)
  · obtain ⟨a, ws, bs, rfl, _⟩ := h
    rfl
  · obtain ⟨a, ws, bs, rfl, hA, hT, hv, h64, hr64, k⟩ := h
    refine ⟨_, PSs.nox (pss_cons (ps_set (i := 1) sc_lelders.nd rfl (Or.inl rfl) (pe_lst pa_nil))
      (pss_cons (ps_for PassesOwn.never rfl (pi_list (pv 0)) (pg_tup (by rfl) (pgs_cons (pg_name (i := 2) sc_lelders.nd rfl (Or.inl rfl)) (pgs_cons (pg_name (i := 3) sc_lelders.nd rfl (Or.inl rfl)) (pgs_cons (pg_name (i := 4) sc_lelders.nd rfl (Or.inl rfl)) pgs_nil))))
        (pss_cons (ps_set (i := 5) sc_lelders.nd rfl (Or.inl rfl) (pe_lst pa_nil))
        (pss_cons (ps_for PassesOwn.never rfl (pi_or (pi_list (pv 2)) (pi_tup (pv 2))) (pg_name (i := 6) sc_lelders.nd rfl (Or.inl rfl))
          (pss_one (ps_set (i := 5) sc_lelders.nd rfl (Or.inl rfl) (pe_op op_cat (pe_op op_cat (pv 5) (pe_lst (pa_cons (pv 6) pa_nil))) (pe_ix ix_list (pv 1) (pv 6) (fun _ _ => rfl))))))
        (pss_one (ps_expr (pe_bm PySem.F.plainAttrs_list PySem.F.slot_list_append PySem.F.type_list_append mt_append (pv 1) (pa_cons (pe_callB (cr_sortedSet rfl) (by rfl) B.sorted (by decide +kernel) (pa_cons (pe_callTy (T := "set") (r := rSetSI K w) (call_setSI (X := _) rfl) (by rfl) B.set (by decide +kernel) (pa_cons (pv 5) pa_nil)) pa_nil)) pa_nil)))))))
      (pss_one (ps_ret (pv 1))))), ?_⟩
    refine ⟨by decide, fun R hR => ?_⟩
    refine ⟨_, rfl, a, rfl, ⟨_, SqL.of (same_new hR _ _ hA)⟩, for_list (K := K) (a := a) (xs := ws) (fun i σ H' => Same H H' ∧ ∃ us x2 x3 x4 x5 x6, σ = [some (.ref a), some (.ref R), x2, x3, x4, x5, x6] ∧ H' R = some (.lst us) ∧ (∀ v ∈ us, v ≠ .ref R) ∧ ListsAt H' us (elders (bs.take i)))
      ⟨same_new hR, [], none, none, none, none, none, rfl, upd_same, (fun v hv => by cases hv), .nil⟩ (fun i σ H' _ h => SqL.of (h.1 _ _ hA)) ?_ ?_⟩
    · rintro i y σ H' hi ⟨sH, us, x2, x3, x4, x5, x6, rfl, hRu, hne, hU⟩
      have hbl : ws.length = bs.length := Paired.length hT
      have hil : i < bs.length := by
        rw [← hbl]
        exact (List.getElem?_eq_some_iff.mp hi).1
      obtain ⟨row, hrow⟩ : ∃ row, bs[i]? = some row := ⟨_, List.getElem?_eq_getElem hil⟩
      obtain ⟨t, b, g, m, et, ht, hb⟩ := hT.get hrow
      obtain rfl : V.ref t = y := Option.some.inj (et.symm.trans hi)
      have hE : (elders (bs.take i)).length = i := by rw [elders_len, List.length_take, Nat.min_eq_left (Nat.le_of_lt hil)]
      have hlt : ∀ c ∈ row, c < i := hv i row hrow
      have hr6 : row.length * bs.length < 64 := hr64 row (List.mem_of_getElem? hrow)
      have hus : us.length = i := hU.len.trans hE
      refine ⟨t, _, rfl, SqT.of (sH _ _ ht), rfl, _, _, rfl, _, _, rfl, _, _, rfl, rfl, ?_⟩
      refine ⟨by decide, fun M hM => ?_⟩
      have sM : Same H' (upd H' M (.lst [])) := same_new hM
      refine for_seqS (K := K) (a := b) (xs := row.map natV) rfl hb (sH.trans sM) (fun j σ H3 => Same H' H3 ∧ ∃ M x6 mi, σ = [some (.ref a), some (.ref R), some (.ref b), some g, some m, some (.ref M), x6] ∧ H3 M = some (.lst (mi.map natV)) ∧ mi.length ≤ j * bs.length ∧ ∀ x, x ∈ mi ↔ ∃ c ∈ row.take j, x = c ∨ x ∈ (elders (bs.take i)).getD c [])
        ⟨sM, M, x6, [], rfl, upd_same, Nat.zero_le _, fun x => by simp⟩ (fun j σ H3 h => sH.trans h.1) ?_ ?_
      · rintro j y σ H3 hj ⟨s3, M, x6, mi, rfl, hMi, hml, hmem⟩
        rw [List.getElem?_map] at hj
        obtain ⟨c, hc, rfl⟩ := Option.map_eq_some_iff.mp hj
        have hjl : j < row.length := (List.getElem?_eq_some_iff.mp hc).1
        have hci : c < i := hlt c (List.mem_of_getElem? hc)
        obtain ⟨l, hl⟩ : ∃ l, (elders (bs.take i))[c]? = some l := ⟨_, List.getElem?_eq_getElem (by rw [hE]; exact hci)⟩
        have hgd : (elders (bs.take i)).getD c [] = l := by
          rw [List.getD_eq_getElem?_getD, hl]
          rfl
        have hll : l.length + 1 ≤ bs.length := by
          have := elders_len_row _ _ _ hl
          rw [List.length_take] at this
          omega
        have hmle : mi.length + (1 + l.length) ≤ (j + 1) * bs.length := by
          rw [Nat.succ_mul]
          omega
        have hbig : (j + 1) * bs.length < 64 := Nat.lt_of_le_of_lt (Nat.mul_le_mul_right _ hjl) hr6
        obtain ⟨q, eq, hq⟩ := hU.get hl
        refine ⟨_, rfl, _, rfl, (by show 1 ≤ 2 ^ 24; decide), fun L hL => ?_⟩
        have sL := same_new (o := .lst [natV c]) hL
        refine ⟨M, L, _, _, rfl, rfl, sL _ _ hMi, upd_same, ?_, fun N1 hN1 => ?_⟩
        · rw [List.length_map]
          show mi.length + 1 ≤ 2 ^ 24
          omega
        have s1 := same_new (o := .lst (mi.map natV ++ [natV c])) hN1
        have sA : Same H' (upd (upd H3 L (.lst [natV c])) N1 (.lst (mi.map natV ++ [natV c]))) := (s3.trans sL).trans s1
        refine ⟨_, rfl, _, rfl, R, us, _, _, rfl, rfl, SqL.of (sA _ _ hRu), atI_nat eq, ?_⟩
        refine ⟨N1, q, _, _, rfl, rfl, upd_same, sA _ _ hq, ?_, fun N2 hN2 => ?_⟩
        · rw [List.length_append, List.length_map, List.length_map]
          show mi.length + 1 + l.length ≤ 2 ^ 24
          omega
        · refine ⟨Same.trans sA (same_new hN2), N2, _, mi ++ [c] ++ l, rfl, ?_, ?_, fun x => ?_⟩
          · rw [upd_same, List.map_append, List.map_append]
            rfl
          · rw [List.length_append, List.length_append]
            show mi.length + 1 + l.length ≤ _
            omega
          · rw [List.take_add_one, hc, Option.toList_some, List.mem_append, List.mem_append, hmem, List.mem_singleton]
            constructor
            · rintro ((⟨d, hd, h⟩ | h) | h)
              · exact ⟨d, List.mem_append_left _ hd, h⟩
              · exact ⟨c, List.mem_append_right _ (List.mem_singleton.mpr rfl), .inl h⟩
              · exact ⟨c, List.mem_append_right _ (List.mem_singleton.mpr rfl), .inr (by rw [hgd]; exact h)⟩
            · rintro ⟨d, hd, h⟩
              rcases List.mem_append.mp hd with hd | hd
              · exact .inl (.inl ⟨d, hd, h⟩)
              · obtain rfl := List.mem_singleton.mp hd
                rcases h with h | h
                · exact .inl (.inr h)
                · rw [hgd] at h
                  exact .inr h
      · rintro σ H3 ⟨s3, M, x6, mi, rfl, hMi, hml, hmem⟩
        rw [List.length_map] at hml
        rw [List.length_map, List.take_length] at hmem
        refine ⟨_, rfl, .inl ⟨rfl, _, SqL.of (s3 _ _ hRu)⟩, _, rfl, M, mi.map (fun (n : Nat) => (n : Int)), rfl, .inl ?_, ?_, fun S c hS hc => ?_⟩
        · rw [List.map_map]
          exact SqL.of hMi
        · rw [List.length_map]
          omega
        · rw [List.length_map] at hc
          have sS := same_new (o := SetO w S (fun j => decide (j ∈ mi.map (fun (n : Nat) => (n : Int)))) c) hS
          refine ⟨S, _, c, rfl, upd_same, by omega, fun ns L asc hns hlen hL => ?_⟩
          have sL := same_new (o := .lst (ns.map V.int)) hL
          have sA : Same H' (upd (upd H3 S (SetO w S (fun j => decide (j ∈ mi.map (fun (n : Nat) => (n : Int)))) c)) L (.lst (ns.map V.int))) := (s3.trans sS).trans sL
          have ens : ns.map V.int = (elStep (elders (bs.take i)) row).map natV := asc_one asc (elStep_up _ _) fun k => by
            rw [hns k, decide_eq_true_iff, List.mem_map]
            constructor
            · rintro ⟨n, hn, e⟩
              exact ⟨n, (elStep_mem (fun b hb => by rw [hE]; exact hlt b hb) (elders_lt _) n).mpr ((hmem n).mp hn), e.symm⟩
            · rintro ⟨n, hn, e⟩
              exact ⟨n, (hmem n).mpr ((elStep_mem (fun b hb => by rw [hE]; exact hlt b hb) (elders_lt _) n).mp hn), e.symm⟩
          have neL : L ≠ R := fun z => by
            have y := (Same.trans s3 sS) _ _ hRu
            rw [← z, hL] at y
            cases y
          refine ⟨R, us, _, rfl, rfl, sA _ _ hRu, by rw [hus]; show i < 2 ^ 24; omega, same_upd (sH.trans sA) hR, us ++ [.ref L], _, _, _, _, _, rfl, upd_same, ?_, ?_⟩
          · intro v hv
            rcases List.mem_append.mp hv with hv | hv
            · exact hne v hv
            · rw [List.mem_singleton.mp hv]
              exact fun z => neL (V.ref.inj z)
          · rw [elders_more hrow]
            refine (ListsAt.mono (R := R) (fun b o hb e => upB hb (sA _ _ e)) hne hU).app (.cons ⟨L, rfl, ?_⟩ .nil)
            rw [← ens]
            exact upB neL upd_same
    · rintro σ H' ⟨sH, us, x2, x3, x4, x5, x6, rfl, hRu, hne, hU⟩
      have hbl : ws.length = bs.length := Paired.length hT
      rw [hbl, List.take_length] at hU
      exact ⟨_, rfl, k H' R us sH hR hRu hne hU⟩
end
end K15

set_option maxRecDepth 100000
set_option maxHeartbeats 4000000
namespace K15
open PySem PySem.Spec PyProof.Rows L2 Kw
section
variable {P : Program} {w : World} {K : PySem.W.Frag} {mg : Str → Option Value} {base : Heap} {f fT fM : Addr} {fd fdT fdM : FuncData}
def spMethods : Sp := fun vs H Q _ => ∃ (p q : Addr), vs = [.ref p] ∧ HandAt H p q ∧
  ∀ l H' (ms : List Nat), Oth p H H' → HandAt H' p q → H l = none → H' l = some (.lst (ms.map natV)) → ms.Pairwise (· < ·) → (∀ m ∈ ms, m < 6) → ms.length ≤ 3 → Q (.ref l) H'
theorem sc_methods : FnScope ["_law_hand_here", "_law_found", "_law_step"] ["_law_hand_here"] (defScope (top 39)) := ⟨rfl, rfl, rfl, by decide +kernel, rfl, by decide +kernel, by decide +kernel⟩
theorem ok_methods (F : FnP K "_law_methods" 39 f fd) (B : Fr mg) (FT : FnP K "_law_take" 37 fT fdT) (mT : mg "_law_take" = some (.ref fT)) (FM : FnP K "_law_mixed" 36 fM fdM) (mM : mg "_law_mixed" = some (.ref fM)) :
    FnOk P w K mg base CX0 3 f fd ["_law_hand_here"] spMethods := by
  have GT : FnOk P w K mg base CX0 2 fT fdT ["_law_hand_here", "_law_many"] spTake := ok_take FT FM mM B.int B.len
  have bT : L2.Binds K fdT ["_law_hand_here", "_law_many"] [] := FT.bindsN fun _ _ _ _ _ _ us hl => match us, hl with | [_, _], _ => rfl
  refine F.ok sc_methods (fun vs H Q E h => ?_) (fun cdv A outer s H vs Q E hr h => ?_)
  · obtain ⟨p, q, rfl, _⟩ := h
    rfl
  · obtain ⟨p, q, rfl, hh, k⟩ := h
    refine ⟨_, PSs.nox (pss_cons (ps_set (i := 1) sc_methods.nd rfl (Or.inl rfl) (pe_lst pa_nil))
      (pss_cons (ps_for PassesOwn.never rfl (pi_range1 (by rfl) B.range (pa_cons (pe_ix ix_tup (pe_tup (pa_cons pe_int (pa_cons pe_int (pa_cons pe_int (pa_cons pe_int (pa_cons pe_int (pa_cons pe_int pa_nil))))))) (pe_call GT hr (by rfl) mT FT.kp bT .nil pass0 (pa_cons (pv 0) (pa_cons pe_int pa_nil))) (fun _ _ => rfl)) pa_nil)) (pg_name (i := 2) sc_methods.nd rfl (Or.inl rfl))
        (pss_one (ps_expr (pe_bm PySem.F.plainAttrs_list PySem.F.slot_list_append PySem.F.type_list_append mt_append (pv 1) (pa_cons (pe_call GT hr (by rfl) mT FT.kp bT .nil pass0 (pa_cons (pv 0) (pa_cons pe_int pa_nil))) pa_nil)))))
      (pss_one (ps_ret (pe_callB (cr_sortedSet rfl) (by rfl) B.sorted (by decide +kernel) (pa_cons (pe_callTy (T := "set") (r := rSetSI K w) (call_setSI (X := _) rfl) (by rfl) B.set (by decide +kernel) (pa_cons (pv 1) pa_nil)) pa_nil)))))), ?_⟩
    refine ⟨by decide, fun l hl => ?_⟩
    obtain ⟨lp, lq⟩ := hh.ne hl
    have h1 : HandAt (upd H l (.lst [])) p q := hh.upd lp lq
    refine ⟨by (show 6 ≤ sizeLine); decide, fun t ht => ?_⟩
    obtain ⟨tp, tq⟩ := h1.ne ht
    have tl : t ≠ l := fun z => by
      rw [z, upd_same] at ht
      cases ht
    refine ⟨_, rfl, p, q, 6, rfl, by decide, by decide, h1.upd tp tq, fun r H2 r0 r1 h2 e2 => ?_⟩
    obtain ⟨v, hv, hm⟩ := tab_at (tab := [0, 1, 0, 2, 1, 3]) r0 r1
    have hv3 : 0 ≤ v ∧ v ≤ 3 := (by decide : ∀ v ∈ ([0, 1, 0, 2, 1, 3] : List Int), 0 ≤ v ∧ v ≤ 3) v hm
    have T2 : H2 t = some (.tup (([0, 1, 0, 2, 1, 3] : List Int).map V.int)) := by
      rw [e2 t tp]
      exact upd_same
    have O2 : Oth p H H2 := fun b o nb e => by
      rw [e2 b nb]
      exact upB (ne_of_none (upB (ne_of_none e hl) e) ht) (upB (ne_of_none e hl) e)
    have L2' : H2 l = some (.lst []) := by
      rw [e2 l lp]
      exact upB tl.symm upd_same
    refine ⟨t, _, r, _, rfl, rfl, SqT.of T2, hv, v, rfl, by omega, by omega, for_range (n := v.toNat) (fun i σ H' => ∃ (ms : List Nat) (x2 : Option V), σ = [some (.ref p), some (.ref l), x2] ∧ HandAt H' p q ∧ Oth p H H' ∧ H' l = some (.lst (ms.map natV)) ∧ (∀ m ∈ ms, m < 6) ∧ ms.length = i)
      ⟨[], none, rfl, h2, O2, L2', fun b hb => (by cases hb), rfl⟩ ?_ ?_⟩
    · rintro i σ H3 hi ⟨ms, x2, rfl, h3, O3, L3, hb, hl3⟩
      refine ⟨_, rfl, .inl ⟨rfl, _, SqL.of L3⟩, _, rfl, p, q, 6, rfl, by decide, by decide, h3, fun r H4 r0 r1 h4 e4 => ?_⟩
      obtain ⟨b, rfl⟩ : ∃ b : Nat, r = (b : Int) := ⟨r.toNat, by omega⟩
      have L4 : H4 l = some (.lst (ms.map natV)) := by
        rw [e4 l lp]
        exact L3
      refine ⟨l, _, _, rfl, rfl, L4, ?_, ms ++ [b], _, rfl, h4.upd lp lq, fun a o na e => upB (ne_of_none e hl) (by rw [e4 a na]; exact O3 a o na e), ?_, ?_, ?_⟩
      · rw [List.length_map]
        show _ < 2 ^ 24
        omega
      · rw [upd_same, List.map_append]
        rfl
      · intro a ha
        rcases List.mem_append.mp ha with ha | ha
        · exact hb a ha
        · rw [List.mem_singleton.mp ha]
          omega
      · rw [List.length_append, hl3]
        rfl
    · rintro σ H3 ⟨ms, x2, rfl, h3, O3, L3, hb, hl3⟩
      refine ⟨_, rfl, l, ms.map (fun (n : Nat) => (n : Int)), rfl, .inl ?_, ?_, fun S c hS hc => ?_⟩
      · rw [List.map_map]
        exact SqL.of L3
      · rw [List.length_map]
        omega
      · rw [List.length_map] at hc
        have sS := same_new (o := SetO w S (fun j => decide (j ∈ ms.map (fun (n : Nat) => (n : Int)))) c) hS
        refine ⟨S, _, c, rfl, upd_same, by omega, fun ns L asc hns hlen hL => ?_⟩
        have sL := same_new (o := .lst (ns.map V.int)) hL
        have ens : ns.map V.int = (sortN ms).map natV := asc_one asc (List.Pairwise.filter _ List.pairwise_lt_range) fun k => by
          rw [hns k, decide_eq_true_iff, List.mem_map]
          constructor
          · rintro ⟨n, hn, e⟩
            exact ⟨n, List.mem_filter.mpr ⟨List.mem_range.mpr (hb n hn), by simpa using hn⟩, e.symm⟩
          · rintro ⟨n, hn, e⟩
            exact ⟨n, by simpa using (List.mem_filter.mp hn).2, e.symm⟩
        have nl : (sortN ms).length = c := by
          have z := congrArg List.length ens
          rw [List.length_map, List.length_map] at z
          omega
        have hLn : H L = none := by
          cases e : H L with
          | none => rfl
          | some o =>
            by_cases z : L = p
            · obtain ⟨cs, i, r, t, h1, _⟩ := h3
              have y := sS _ _ h1
              rw [← z, hL] at y
              cases y
            · have y := sS _ _ (O3 L o z e)
              rw [hL] at y
              cases y
        refine k L _ (sortN ms) ((O3.trans (Oth.of sS)).trans (Oth.of sL)) ((h3.same sS).same sL) hLn (by rw [upd_same, ens]) (List.Pairwise.filter _ List.pairwise_lt_range) (fun m hm => List.mem_range.mp (List.mem_filter.mp hm).1) (by omega)
end
end K15

set_option maxRecDepth 100000
set_option maxHeartbeats 4000000
namespace K15
open PySem PySem.Spec PyProof.Rows L2 Kw
/-- the facts of a world that others read: the object's fields -/
theorem WorldAt.mono {H H' : Hp} {p C : Addr} {ds : List Ent} (h : WorldAt H p C ds) (s : Same H H') : WorldAt H' p C ds := by
  obtain ⟨dx, ac, ab, ao, am, ae, ah, cs, bs, ms, es, hs, h1, h2, h3, h4, h5, h6, h7, h8, h9, h10, h11, h12⟩ := h
  exact ⟨dx, ac, ab, ao, am, ae, ah, cs, bs, ms, es, hs, s _ _ h1, s _ _ h2, h3.mono (Same.tupK s), s _ _ h4, h5.mono (Same.tupK s), s _ _ h6, s _ _ h7, h8.mono (Same.tupK s), s _ _ h9, h10.mono (Same.tupK s), s _ _ h11, h12.mono (Same.tupK s)⟩
section
variable {P : Program} {w : World} {K : PySem.W.Frag} {mg : Str → Option Value} {base : Heap} {f fW fN fC C Cn : Addr} {fd fdW fdN fdC : FuncData}
theorem sc_noClass : FnScope ["self", "cls"] ["self", "cls"] (defScope (inClass (top 4) 0)) := ⟨rfl, rfl, rfl, by decide +kernel, rfl, by decide +kernel, by decide +kernel⟩
theorem ok_noClass (F : FnM K "__init__" "NoClass.__init__" (inClass (top 4) 0) f fd) (T : ErrX K mg "NoClass" ["cls"] C f) : FnOk P w K mg base CX0 1 f fd ["self", "cls"] (spR C ["cls"]) ∧ Binds K fd ["self", "cls"] [] := by
  refine ⟨F.ok sc_noClass (fun vs H Q E h => ?_) (fun cdv A outer s H vs Q E hr h => ?_), F.bindsN fun _ _ _ _ _ _ us hl => match us, hl with | [_, _], _ => rfl⟩
  · obtain ⟨a, xs, rfl, hl, _⟩ := h
    exact congrArg Nat.succ hl
  · obtain ⟨a, xs, rfl, hl, ha, k⟩ := h
    match xs, hl with
    | [x1], _ =>
      refine ⟨_, PSs.nox (pss_one (ps_ost (pv 0) (pv 1))), ?_⟩
      refine ⟨_, rfl, _, rfl, a, C, rfl, T.oex, T.no _ (List.mem_of_getElem? (i := 0) rfl), .inl ⟨ha, fun dx hd ne => ?_⟩⟩
      exact k dx _ hd ne upd_same (upB ne upd_same) fun b o hb e => upB hb (upB (ne_of_none e hd) e)
/-- a class is told, or NoClass -/
def spCheck (C Cn : Addr) : Sp := fun vs H Q E => ∃ (p : Addr) (c : V) (t : String) (ds : List Ent), vs = [.ref p, c] ∧ WorldAt H p C ds ∧ Ty0 H c t ∧
  ((wholeB (.int 0) (.int ((ds.length : Int) - 1)) c = true ∧ ∀ H', Same H H' → Q c H') ∨
   (wholeB (.int 0) (.int ((ds.length : Int) - 1)) c = false ∧ ∀ d H', Same H H' → H' d = some (.xd (errF ["cls"] [c])) → E (.ref Cn) (some d) H'))
theorem sc_check : FnScope ["world", "c"] ["world", "c"] (defScope (top 14)) := ⟨rfl, rfl, rfl, by decide +kernel, rfl, by decide +kernel, by decide +kernel⟩
theorem ok_check (F : FnP K "check_class" 14 f fd) (B : Fr mg) (TC : ClsWorld K mg C) (FW : FnDf K "is_whole" 11 [.non, .non] fW fdW) (mW : mg "is_whole" = some (.ref fW)) (FN : FnM K "__init__" "NoClass.__init__" (inClass (top 4) 0) fN fdN) (TN : ErrX K mg "NoClass" ["cls"] Cn fN) :
    FnOk P w K mg base (L2.CX P w) 3 f fd ["world", "c"] (spCheck C Cn) := by
  have GW : FnOk P w K mg base CX0 1 fW fdW ["thing", "low", "high"] spWhole := ok_whole FW B
  obtain ⟨GN, bN⟩ : FnOk P w K mg base CX0 1 fN fdN ["self", "cls"] (spR Cn ["cls"]) ∧ Binds K fdN ["self", "cls"] [] := ok_noClass FN TN
  have bW := binds_whole3 FW
  refine F.ok sc_check (fun vs H Q E h => ?_) (fun cdv A outer s H vs Q E hr h => ?_)
  · obtain ⟨p, c, t, ds, rfl, _⟩ := h
    rfl
  · obtain ⟨p, c, t, ds, rfl, hw, ty, h⟩ := h
    have hw0 := hw
    obtain ⟨dx, ac, ab, ao, am, ae, ah, cs, bs, ms, es, hs, h1, h2, h3, _⟩ := hw
    refine ⟨_, (pss_cons (ps_if (pt_not (pt_val (pe_call GW (hr.mono (by decide)) (by rfl) mW FW.kp bW .nil pass0 (pa_cons (pv 1) (pa_cons pe_int (pa_cons (pe_op op_sub (pe_callB call_len_seq (by rfl) B.len PySem.boot_len (pa_cons (pe_fld (pv 0) rfl) pa_nil)) pe_int) pa_nil))))))
        (pss_one (ps_raise rfl (takes_of rfl rfl rfl rfl) (pmk_oex TN.oex TN.ini TN.inT GN (hr.mono (by decide)) bN .nil pass0 (by rfl) TN.mg (pa_cons (pv 1) pa_nil)))) pss_nil)
      (pss_one (ps_ret (pv 1)))), ?_⟩
    refine ⟨_, rfl, _, rfl, p, C, dx, _, _, rfl, h1, TC.cl, TC.no _ (List.mem_of_getElem? (i := 0) rfl), rfl, ac, cs, rfl, .inr (SqT.of h2), _, _, rfl, rfl, c, _, _, t, rfl, ty, .inr ⟨_, rfl⟩, .inr ⟨_, rfl⟩, _, rfl, ?_⟩
    rw [h3.len]
    rcases h with ⟨e, k⟩ | ⟨e, k⟩
    · rw [e]
      exact iteF ⟨_, rfl, k H (Same.refl H)⟩
    · rw [e]
      exact iteT ⟨_, rfl, raise_q rfl (by decide) fun d H' s1 _ e => k d H' s1 e⟩
end
end K15

set_option maxRecDepth 100000
set_option maxHeartbeats 4000000
namespace K15
open PySem PySem.Spec PyProof.Rows L2 Kw
def onLine (els : List (List Nat)) (x y : Nat) : Bool := decide (x = y) || ((els.getD y []).contains x || (els.getD x []).contains y)
def elsOf (ds : List Ent) : List (List Nat) := elders (ds.map (·.1))
theorem elsOf_len (ds : List Ent) : (elsOf ds).length = ds.length := by
  unfold elsOf
  rw [elders_len, List.length_map]
theorem WorldAt.elder {H : Hp} {p C : Addr} {ds : List Ent} (h : WorldAt H p C ds) {x : Nat} (hx : x < ds.length) : ∃ (dx : Addr) (fs : List (Str × V)) (ae : Addr) (es : List V) (t : Addr), H p = some (.ins C dx fs) ∧ List.lookup ("elders" : Str) fs = some (V.ref ae) ∧ H ae = some (.tup es) ∧ es[x]? = some (.ref t) ∧ H t = some (.tup (((elsOf ds).getD x []).map natV)) := by
  obtain ⟨dx, ac, ab, ao, am, ae, ah, cs, bs, ms, es, hs, h1, h2, h3, h4, h5, h6, h7, h8, h9, h10, h11, h12⟩ := h
  obtain ⟨l, hl⟩ : ∃ l, (elsOf ds)[x]? = some l := ⟨_, List.getElem?_eq_getElem (by rw [elsOf_len]; exact hx)⟩
  obtain ⟨t, e1, e2⟩ := h10.get hl
  refine ⟨dx, _, ae, es, t, h1, rfl, h9, e1, ?_⟩
  rw [List.getD_eq_getElem?_getD, hl]
  exact e2
theorem whole_nat {n : Nat} {c : V} (h : wholeB (.int 0) (.int ((n : Int) - 1)) c = true) : ∃ x : Nat, c = natV x ∧ x < n := by
  cases c with
  | int i =>
    unfold wholeB inLo inHi at h
    simp only [Bool.and_eq_true, decide_eq_true_eq] at h
    exact ⟨i.toNat, by (show V.int i = V.int _); congr 1; omega, by omega⟩
  | _ => cases h
section
variable {P : Program} {w : World} {K : PySem.W.Frag} {mg : Str → Option Value} {base : Heap} {f fW fN fC C Cn : Addr} {fd fdW fdN fdC : FuncData}
def spOnLine (C Cn : Addr) : Sp := fun vs H Q E => ∃ (p : Addr) (a b : V) (ta tb : String) (ds : List Ent), vs = [.ref p, a, b] ∧ WorldAt H p C ds ∧ Ty0 H a ta ∧ Ty0 H b tb ∧
  ((wholeB (.int 0) (.int ((ds.length : Int) - 1)) a = false ∧ ∀ d H', Same H H' → H' d = some (.xd (errF ["cls"] [a])) → E (.ref Cn) (some d) H') ∨
   (wholeB (.int 0) (.int ((ds.length : Int) - 1)) a = true ∧ wholeB (.int 0) (.int ((ds.length : Int) - 1)) b = false ∧ ∀ d H', Same H H' → H' d = some (.xd (errF ["cls"] [b])) → E (.ref Cn) (some d) H') ∨
   ∃ x y : Nat, a = natV x ∧ b = natV y ∧ x < ds.length ∧ y < ds.length ∧ ∀ H', Same H H' → Q (.bl (onLine (elsOf ds) x y)) H')
theorem sc_onLine : FnScope ["world", "a", "b"] ["world", "a", "b"] (defScope (top 15)) := ⟨rfl, rfl, rfl, by decide +kernel, rfl, by decide +kernel, by decide +kernel⟩
theorem iteT' {c : Bool} {A B : Prop} (h : c = true) (a : A) : if c = true then A else B := by
  rw [if_pos h]
  exact a
theorem iteF' {c : Bool} {A B : Prop} (h : c = false) (b : B) : if c = true then A else B := by
  rw [if_neg (by rw [h]; decide)]
  exact b
theorem whole_of {n x : Nat} (h : x < n) : wholeB (.int 0) (.int ((n : Int) - 1)) (natV x) = true := by
  show wholeB (.int 0) (.int ((n : Int) - 1)) (.int (x : Int)) = true
  unfold wholeB inLo inHi
  simp only [Bool.and_eq_true, decide_eq_true_eq]
  omega
theorem ok_onLine (F : FnP K "on_line" 15 f fd) (B : Fr mg) (TC : ClsWorld K mg C) (FC : FnP K "check_class" 14 fC fdC) (mC : mg "check_class" = some (.ref fC)) (FW : FnDf K "is_whole" 11 [.non, .non] fW fdW) (mW : mg "is_whole" = some (.ref fW)) (FN : FnM K "__init__" "NoClass.__init__" (inClass (top 4) 0) fN fdN) (TN : ErrX K mg "NoClass" ["cls"] Cn fN) :
    FnOk P w K mg base (L2.CX P w) 4 f fd ["world", "a", "b"] (spOnLine C Cn) := by
  have GC : FnOk P w K mg base (L2.CX P w) 3 fC fdC ["world", "c"] (spCheck C Cn) := ok_check FC B TC FW mW FN TN
  have bC : L2.Binds K fdC ["world", "c"] [] := FC.bindsN fun _ _ _ _ _ _ us hl => match us, hl with | [_, _], _ => rfl
  refine F.ok sc_onLine (fun vs H Q E h => ?_) (fun cdv A outer s H vs Q E hr h => ?_)
  · obtain ⟨p, a, b, ta, tb, ds, rfl, _⟩ := h
    rfl
  · obtain ⟨p, a, b, ta, tb, ds, rfl, hw, tya, tyb, h⟩ := h
    refine ⟨_, (pss_cons (ps_expr (pe_callS GC hr (by rfl) mC FC.kp bC (fun σ => passAt (takes_of rfl rfl rfl rfl) σ) (pa_cons (pv 0) (pa_cons (pv 1) pa_nil))))
      (pss_cons (ps_expr (pe_callS GC hr (by rfl) mC FC.kp bC (fun σ => passAt (takes_of rfl rfl rfl rfl) σ) (pa_cons (pv 0) (pa_cons (pv 2) pa_nil))))
      (pss_one (ps_ret (pe_or (pe_cmp (pc_eqI (pv 1) (pv 2)) rfl) (pe_or (pe_cmpR (r := rIn K false) op_in_seq (pv 1) (pe_ix (r := rIxT K) ix_tup (pe_fld (pv 0) rfl) (pv 2) (fun _ _ => rfl)) (by rfl)) (pe_one (pe_cmpR (r := rIn K false) op_in_seq (pv 2) (pe_ix (r := rIxT K) ix_tup (pe_fld (pv 0) rfl) (pv 1) (fun _ _ => rfl)) (by rfl))))))))), ?_⟩
    rcases h with ⟨e, k⟩ | ⟨e1, e, k⟩ | ⟨x, y, rfl, rfl, hx, hy, k⟩
    · exact ⟨_, rfl, _, rfl, p, a, ta, ds, rfl, hw, tya, .inr ⟨e, k⟩⟩
    · refine ⟨_, rfl, _, rfl, p, a, ta, ds, rfl, hw, tya, .inl ⟨e1, fun H1 s1 => ?_⟩⟩
      exact ⟨_, rfl, _, rfl, p, b, tb, ds, rfl, hw.mono s1, tyb.same s1, .inr ⟨e, fun d H' s2 z => k d H' (s1.trans s2) z⟩⟩
    · refine ⟨_, rfl, _, rfl, p, _, ta, ds, rfl, hw, tya, .inl ⟨whole_of hx, fun H1 s1 => ?_⟩⟩
      refine ⟨_, rfl, _, rfl, p, _, tb, ds, rfl, hw.mono s1, tyb.same s1, .inl ⟨whole_of hy, fun H2 s2 => ?_⟩⟩
      have hw2 := (hw.mono s1).mono s2
      have k2 := k H2 (s1.trans s2)
      obtain ⟨dx, fs, ae, es, t1, p1, p2, p3, p4, p5⟩ := hw2.elder hy
      obtain ⟨dx', fs', ae', es', t2, q1, q2, q3, q4, q5⟩ := hw2.elder hx
      unfold onLine at k2
      refine ⟨_, rfl, _, rfl, x, y, rfl, rfl, _, rfl, ?_⟩
      by_cases hxy : x = y
      · rw [decide_eq_true hxy, Bool.true_or] at k2
        refine iteT' (decide_eq_true (show (x : Int) = (y : Int) by omega)) k2
      · rw [decide_eq_false hxy, Bool.false_or] at k2
        refine iteF' (decide_eq_false (show ¬ (x : Int) = (y : Int) by omega)) ?_
        refine ⟨_, rfl, _, rfl, p, C, dx, _, _, rfl, p1, TC.cl, TC.no _ (List.mem_of_getElem? (i := 4) rfl), p2, _, rfl, ae, es, (y : Int), _, rfl, rfl, SqT.of p3, atI_nat p4, t1, _, rfl, .inr (SqT.of p5), rfl, flat_nats _, _, rfl, ?_⟩
        have e1 : inV (natV x) (((elsOf ds).getD y []).map natV) = ((elsOf ds).getD y []).contains x := inV_nat _ _
        show (if inV (natV x) (((elsOf ds).getD y []).map natV) = true then _ else _)
        rw [e1]
        cases hc : ((elsOf ds).getD y []).contains x with
        | true =>
          rw [hc, Bool.true_or] at k2
          exact iteT k2
        | false =>
          rw [hc, Bool.false_or] at k2
          refine iteF ⟨_, rfl, _, rfl, p, C, dx', _, _, rfl, q1, TC.cl, TC.no _ (List.mem_of_getElem? (i := 4) rfl), q2, _, rfl, ae', es', (x : Int), _, rfl, rfl, SqT.of q3, atI_nat q4, t2, _, rfl, .inr (SqT.of q5), rfl, flat_nats _, ?_⟩
          have e2 : inV (natV y) (((elsOf ds).getD x []).map natV) = ((elsOf ds).getD x []).contains y := inV_nat _ _
          rw [← e2] at k2
          exact k2
end
end K15

set_option maxRecDepth 100000
set_option maxHeartbeats 4000000
namespace K15
open PySem PySem.Spec PyProof.Rows L2 Kw
/-- tuples and lists of ints stay, but for the object at R -/
def IntsO (o : HO) : Prop := (∃ xs, o = .tup xs) ∨ ∃ ns : List Int, o = .lst (ns.map V.int)
def KeepX (R : Addr) (H H' : Hp) : Prop := ∀ b o, b ≠ R → H b = some o → IntsO o → H' b = some o
theorem KeepX.trans {R : Addr} {H H1 H2 : Hp} (a : KeepX R H H1) (b : KeepX R H1 H2) : KeepX R H H2 := fun c o n e i => b c o n (a c o n e i) i
theorem KeepX.of {R : Addr} {H H1 : Hp} (s : Same H H1) : KeepX R H H1 := fun c o _ e _ => s c o e
theorem KeepX.upd {R : Addr} {H : Hp} {o : HO} : KeepX R H (upd H R o) := fun c u n e _ => by
  rw [upd_ne n]
  exact e
theorem KeepX.oth {R p q : Addr} {H H1 : Hp} (s : Oth p H H1) (h : HandAt H p q) : KeepX R H H1 := fun c o _ e i => by
  refine s c o (fun z => ?_) e
  obtain ⟨cs, i1, r, t, h1, _⟩ := h
  rw [z, h1] at e
  have e := Option.some.inj e
  rcases i with ⟨xs, rfl⟩ | ⟨ns, rfl⟩
  · cases e
  · cases ns with
    | nil => cases e
    | cons n r =>
      injection e with e
      injection e with e _
      cases e
theorem natsI (l : List Nat) : l.map natV = (l.map fun (n : Nat) => (n : Int)).map V.int := by
  rw [List.map_map]
  rfl
theorem ints_o (l : List Nat) : IntsO (.lst (l.map natV)) := .inr ⟨l.map fun (n : Nat) => (n : Int), by rw [natsI]⟩
/-- lists of numbers, none of them at R -/
def LsN (R : Addr) (H : Hp) : List V → List (List Nat) → Prop := Paired fun v l => ∃ t, v = .ref t ∧ t ≠ R ∧ H t = some (.lst (l.map natV))
theorem LsN.keep {R : Addr} {H H' : Hp} (k : KeepX R H H') : ∀ {vs : List V} {ls : List (List Nat)}, LsN R H vs ls → LsN R H' vs ls
  | [], [], _ => .nil
  | _ :: _, _ :: _, .cons ⟨t, e, n, h⟩ r => .cons ⟨t, e, n, k _ _ n h (ints_o _)⟩ (LsN.keep k r)
theorem LsN.get {R : Addr} {H : Hp} : ∀ {vs : List V} {ls : List (List Nat)} {i : Nat} {l : List Nat}, LsN R H vs ls → ls[i]? = some l → ∃ t, vs[i]? = some (.ref t) ∧ t ≠ R ∧ H t = some (.lst (l.map natV))
  | [], [], _, _, _, h => by simp at h
  | _ :: _, _ :: _, 0, _, .cons ⟨t, e1, h⟩ _, e => by
    obtain rfl := Option.some.inj e
    exact ⟨t, by rw [e1]; rfl, h⟩
  | _ :: _, _ :: _, i + 1, _, .cons _ r, e => LsN.get (i := i) r e
theorem LsN.app {R : Addr} {H : Hp} : ∀ {vs us : List V} {ls ms : List (List Nat)}, LsN R H vs ls → LsN R H us ms → LsN R H (vs ++ us) (ls ++ ms)
  | [], _, [], _, _, h => h
  | _ :: _, _, _ :: _, _, .cons h r, s => .cons h (LsN.app r s)
theorem LsN.len {R : Addr} {H : Hp} {vs : List V} {ls : List (List Nat)} (h : LsN R H vs ls) : vs.length = ls.length := Paired.length h
theorem LsN.set {R : Addr} {H : Hp} {t : Addr} {l : List Nat} (n : t ≠ R) (h : H t = some (.lst (l.map natV))) : ∀ {vs : List V} {ls : List (List Nat)} (i : Nat), LsN R H vs ls → LsN R H (vs.set i (.ref t)) (ls.set i l)
  | [], [], _, _ => .nil
  | _ :: _, _ :: _, 0, .cons _ r => .cons ⟨t, rfl, n, h⟩ r
  | _ :: _, _ :: _, i + 1, .cons z r => .cons z (LsN.set n h i r)
theorem LsN.lists {R : Addr} {H : Hp} : ∀ {vs : List V} {ls : List (List Nat)}, LsN R H vs ls → ListsAt H vs ls
  | [], [], _ => .nil
  | _ :: _, _ :: _, .cons ⟨t, e, n, h⟩ r => .cons ⟨t, e, h⟩ (LsN.lists r)
/-- rows of bases as a law draws them -/
def BOk (bs : List (List Nat)) : Prop := ∀ (i : Nat) (row : List Nat), bs[i]? = some row → row.Nodup ∧ (∀ b ∈ row, b < i) ∧ row.length ≤ 3
theorem BOk.app {bs : List (List Nat)} {row : List Nat} (h : BOk bs) (nd : row.Nodup) (hb : ∀ b ∈ row, b < bs.length) (hl : row.length ≤ 3) : BOk (bs ++ [row]) := fun i r e => by
  by_cases q : i < bs.length
  · rw [List.getElem?_append_left q] at e
    exact h i r e
  · rw [List.getElem?_append_right (by omega)] at e
    by_cases q2 : i - bs.length = 0
    · rw [q2] at e
      obtain rfl : row = r := Option.some.inj e
      have : i = bs.length := by omega
      rw [this]
      exact ⟨nd, hb, hl⟩
    · rw [List.getElem?_eq_none (by rw [List.length_singleton]; omega)] at e
      cases e
theorem BOk.set {bs : List (List Nat)} {row : List Nat} {j : Nat} (h : BOk bs) (nd : row.Nodup) (hb : ∀ b ∈ row, b < j) (hl : row.length ≤ 3) : BOk (bs.set j row) := fun i r e => by
  rw [List.getElem?_set] at e
  by_cases q : j = i
  · rw [if_pos q] at e
    split at e
    · obtain rfl : row = r := Option.some.inj e
      rw [← q]
      exact ⟨nd, hb, hl⟩
    · cases e
  · rw [if_neg q] at e
    exact h i r e
theorem BOk.take {bs : List (List Nat)} (h : BOk bs) (n : Nat) : BOk (bs.take n) := fun i r e => by
  rw [List.getElem?_take] at e
  split at e
  · exact h i r e
  · cases e
theorem oth_free {p D : Addr} {H H1 : Hp} (s : Oth p H H1) (n : D ≠ p) (h : H1 D = none) : H D = none := by
  cases e : H D with
  | none => rfl
  | some o =>
    rw [s D o n e] at h
    cases h
theorem Oth.take {p : Addr} {H H1 : Hp} (e2 : ∀ b, b ≠ p → H1 b = H b) : Oth p H H1 := fun b o nb e => (e2 b nb).trans e
/-- written again at a place that was free -/
theorem Oth.updN {p D : Addr} {H H1 : Hp} {o : HO} (s : Oth p H H1) (hD : H D = none) : Oth p H (L2.upd H1 D o) := fun b u nb e => upB (ne_of_none e hD) (s b u nb e)
end K15

set_option maxRecDepth 100000
set_option maxHeartbeats 8000000
namespace K15
open PySem PySem.Spec PyProof.Rows L2 Kw
def shapeTab : List (List (List Nat)) := [[[], [], [0, 1], [], [1, 3], [3, 0], [2, 4]], [[], [], [], [0, 1], [1, 2], [2, 0], [3, 4], [5]], [[], [0], [0], [2, 1], [0], [4, 2], [1, 4], [3, 4]], [[], [0], [0], [0], [1, 2], [2, 3], [3, 1], [4, 3]], [[], [0], [0], [1, 2], [0], [3, 4], [4], [5, 6]], [[], [], [0, 1], [], [2, 3], [0], [5, 3], [4]]]
def bokB (bs : List (List Nat)) : Bool := (List.range bs.length).all fun i => decide (bs.getD i []).Nodup && ((bs.getD i []).all (fun b => decide (b < i)) && decide ((bs.getD i []).length ≤ 3))
theorem bokB_ok {bs : List (List Nat)} (h : bokB bs = true) : BOk bs := fun i r e => by
  have hi : i < bs.length := (List.getElem?_eq_some_iff.mp e).1
  have z := List.all_eq_true.mp h i (List.mem_range.mpr hi)
  rw [List.getD_eq_getElem?_getD, e, Option.getD_some] at z
  simp only [Bool.and_eq_true, decide_eq_true_eq, List.all_eq_true] at z
  exact ⟨z.1, z.2.1, z.2.2⟩
theorem shapeTab_ok : ∀ bs ∈ shapeTab, BOk bs := fun bs h => bokB_ok ((by decide : ∀ bs ∈ shapeTab, bokB bs = true) bs h)
theorem ixN_at {n j : Nat} (hj : j < n) : ixN n (j : Int) = some j := by
  unfold ixN
  rw [if_pos (by omega), if_pos (by omega), Int.toNat_natCast]
def cz (l : List (List Nat)) : List (List Int) := l.map fun r => r.map fun (n : Nat) => (n : Int)
theorem cutV_take (xs : List V) (n : Nat) : cutV xs none (some (n : Int)) = xs.take n := by
  unfold cutV
  rw [HT.sIx_nat, HT.sIx_none, Nat.sub_zero, List.drop_zero]
  by_cases h : n ≤ xs.length
  · rw [Nat.min_eq_left h]
  · rw [Nat.min_eq_right (by omega), List.take_of_length_le (Nat.le_refl _), List.take_of_length_le (by omega)]
section
variable {P : Program} {w : World} {K : PySem.W.Frag} {mg : Str → Option Value} {base : Heap} {f fT fM fB : Addr} {fd fdT fdM fdB : FuncData}
def spShape : Sp := fun vs H Q _ => ∃ (p q : Addr) (n : Nat), vs = [.ref p, .int (n : Int)] ∧ 1 ≤ n ∧ n ≤ 12 ∧ HandAt H p q ∧
  ∀ l H' us (bs : List (List Nat)), Oth p H H' → HandAt H' p q → H l = none → H' l = some (.lst us) → LsN l H' us bs → bs.length = n → BOk bs → Q (.ref l) H'
theorem sc_shape : FnScope ["_law_hand_here", "_law_many", "_law_breed", "_law_c", "_law_rows", "_law_bases_here", "_law_row_here", "_law_at"] ["_law_hand_here", "_law_many"] (defScope (top 40)) := ⟨rfl, rfl, rfl, by decide +kernel, rfl, by decide +kernel, by decide +kernel⟩
theorem ok_shape (F : FnP K "_law_shape" 40 f fd) (B : Fr mg) (FT : FnP K "_law_take" 37 fT fdT) (mT : mg "_law_take" = some (.ref fT)) (FM : FnP K "_law_mixed" 36 fM fdM) (mM : mg "_law_mixed" = some (.ref fM)) (FB : FnP K "_law_bases" 38 fB fdB) (mB : mg "_law_bases" = some (.ref fB)) :
    FnOk P w K mg base CX0 4 f fd ["_law_hand_here", "_law_many"] spShape := by
  have GT : FnOk P w K mg base CX0 2 fT fdT ["_law_hand_here", "_law_many"] spTake := ok_take FT FM mM B.int B.len
  have bT : L2.Binds K fdT ["_law_hand_here", "_law_many"] [] := FT.bindsN fun _ _ _ _ _ _ us hl => match us, hl with | [_, _], _ => rfl
  have GB : FnOk P w K mg base CX0 3 fB fdB ["_law_hand_here", "_law_c"] spBases := ok_bases FB B FT mT FM mM
  have bB : L2.Binds K fdB ["_law_hand_here", "_law_c"] [] := FB.bindsN fun _ _ _ _ _ _ us hl => match us, hl with | [_, _], _ => rfl
  refine F.ok sc_shape (fun vs H Q E h => ?_) (fun cdv A outer s H vs Q E hr h => ?_)
  · obtain ⟨p, q, n, rfl, _⟩ := h
    rfl
  · obtain ⟨p, q, n, rfl, n1, n12, hh, k⟩ := h
    refine ⟨_, PSs.nox (pss_cons (ps_set (i := 2) sc_shape.nd rfl (Or.inl rfl) (pe_call GT (hr.mono (by decide)) (by rfl) mT FT.kp bT .nil pass0 (pa_cons (pv 0) (pa_cons pe_int pa_nil))))
      (pss_cons (ps_if (pt_cmpR op_lt (pv 2) pe_int (nomark _)) (pss_one (ps_ret
        (pe_lc (own := [("_law_c", 3)]) (g := gName 3) (tt := tYes) rfl sc_shape.nd (pi_range1 (by rfl) B.range (pa_cons (pv 1) pa_nil)) (blkOk_by (N := ["_law_hand_here", "_law_many", "_law_breed", "_law_c", "_law_rows", "_law_bases_here", "_law_row_here", "_law_at"]) (sc := defScope (top 40)) (by decide +kernel))
          (fun _ _ _ _ _ => pg_name (i := 3) sc_shape.nd rfl (Or.inl rfl)) (fun _ _ _ _ _ => pts_nil)
          (fun _ _ _ _ _ => pe_call GB hr (by rfl) mB FB.kp bB .nil pass0 (pa_cons (pv 0) (pa_cons (pv 3) pa_nil)))))) pss_nil)
      (pss_cons (ps_set (i := 4) sc_shape.nd rfl (Or.inl rfl) (pe_ix ix_list (pe_lit3 (pa_lits2 (pe_lit2 (pa_lits pe_il0 (pa_lits pe_il0 (pa_lits pe_il2 (pa_lits pe_il0 (pa_lits pe_il2 (pa_lits pe_il2 (pa_lits pe_il2 pa_lits_nil))))))))
          (pa_lits2 (pe_lit2 (pa_lits pe_il0 (pa_lits pe_il0 (pa_lits pe_il0 (pa_lits pe_il2 (pa_lits pe_il2 (pa_lits pe_il2 (pa_lits pe_il2 (pa_lits pe_il1 pa_lits_nil)))))))))
          (pa_lits2 (pe_lit2 (pa_lits pe_il0 (pa_lits pe_il1 (pa_lits pe_il1 (pa_lits pe_il2 (pa_lits pe_il1 (pa_lits pe_il2 (pa_lits pe_il2 (pa_lits pe_il2 pa_lits_nil)))))))))
          (pa_lits2 (pe_lit2 (pa_lits pe_il0 (pa_lits pe_il1 (pa_lits pe_il1 (pa_lits pe_il1 (pa_lits pe_il2 (pa_lits pe_il2 (pa_lits pe_il2 (pa_lits pe_il2 pa_lits_nil)))))))))
          (pa_lits2 (pe_lit2 (pa_lits pe_il0 (pa_lits pe_il1 (pa_lits pe_il1 (pa_lits pe_il2 (pa_lits pe_il1 (pa_lits pe_il2 (pa_lits pe_il1 (pa_lits pe_il2 pa_lits_nil)))))))))
          (pa_lits2 (pe_lit2 (pa_lits pe_il0 (pa_lits pe_il0 (pa_lits pe_il2 (pa_lits pe_il0 (pa_lits pe_il2 (pa_lits pe_il1 (pa_lits pe_il2 (pa_lits pe_il1 pa_lits_nil)))))))))
          pa_lits2_nil))))))) (pe_op op_sub (pv 2) pe_int) (fun _ _ => rfl)))
      (pss_cons (ps_setLc (i := 5) (own := [("_law_row_here", 6)]) (g := gName 6) (tt := tYes) rfl sc_shape.nd rfl rfl (sw_true rfl rfl rfl (by decide +kernel)) (pi_list (pe_slice sl_list (pv 4) po_none (po_some (pv 1)))) (blkOk_by (N := ["_law_hand_here", "_law_many", "_law_breed", "_law_c", "_law_rows", "_law_bases_here", "_law_row_here", "_law_at"]) (sc := defScope (top 40)) (by decide +kernel))
          (fun _ _ _ _ _ => pg_name (i := 6) sc_shape.nd rfl (Or.inl rfl)) (fun _ _ _ _ _ => pts_nil)
          (fun _ _ _ _ _ => pe_callTy (T := "list") (r := rListOf K) (call_lst (X := _)) (by rfl) B.list (by decide +kernel) (pa_cons (pv 6) pa_nil)))
      (pss_cons (ps_while PassesOwn.never (pt_cmpR op_lt (pe_callB call_len_seq (by rfl) B.len PySem.boot_len (pa_cons (pv 5) pa_nil)) (pv 1) (nomark _))
        (pss_one (ps_expr (pe_bm PySem.F.plainAttrs_list PySem.F.slot_list_append PySem.F.type_list_append mt_append (pv 5) (pa_cons (pe_call GB hr (by rfl) mB FB.kp bB .nil pass0 (pa_cons (pv 0) (pa_cons (pe_callB call_len_seq (by rfl) B.len PySem.boot_len (pa_cons (pv 5) pa_nil)) pa_nil))) pa_nil)))))
      (pss_cons (ps_set (i := 7) sc_shape.nd rfl (Or.inl rfl) (pe_call GT (hr.mono (by decide)) (by rfl) mT FT.kp bT .nil pass0 (pa_cons (pv 0) (pa_cons (pv 1) pa_nil))))
      (pss_cons (ps_if (pt_cmpR op_eq (pe_call GT (hr.mono (by decide)) (by rfl) mT FT.kp bT .nil pass0 (pa_cons (pv 0) (pa_cons pe_int pa_nil))) pe_int (nomark _))
        (pss_one (ps_asg (pe_call GB hr (by rfl) mB FB.kp bB .nil pass0 (pa_cons (pv 0) (pa_cons (pv 7) pa_nil))) (pg_sub (pv 5) (pv 7) set_list (fun _ => rfl)))) pss_nil)
      (pss_one (ps_ret (pv 5)))))))))), ?_⟩
    refine ⟨_, rfl, p, q, 8, rfl, by decide, by decide, hh, fun r H1 r0 r1 h1 e1 => ?_⟩
    have O1 : Oth p H H1 := Oth.take e1
    refine ⟨_, rfl, _, _, rfl, rfl, _, rfl, ?_⟩
    refine ite2 (fun _ => ?_) (fun hr2 => ?_)
    · refine ⟨_, rfl, _, rfl, by omega, by omega, fun D hD => ?_⟩
      obtain ⟨Dp, Dq⟩ := h1.ne hD
      have HD : H D = none := oth_free O1 Dp hD
      refine lc_range (n := n) (fun i H2 => Oth p H H2 ∧ HandAt H2 p q ∧ ∃ us bs, H2 D = some (.lst us) ∧ LsN D H2 us bs ∧ bs.length = i ∧ BOk bs) ⟨O1.updN HD, h1.upd Dp Dq, [], [], upd_same, .nil, rfl, fun i r e => by simp at e⟩ ?_ ?_
      · rintro i H2 hi ⟨O2, h2, us, bs, hDu, hU, hl, hb⟩
        refine ⟨rfl, _, rfl, _, rfl, p, q, i, by (show [V.ref p, V.int (0 + (i : Int))] = _; rw [Int.zero_add]), by omega, h2, fun l H3 row O3 h3 hl3 e3 nd hlt hl3' => ?_⟩
        have lD : l ≠ D := fun z => by
          rw [z, hDu] at hl3
          cases hl3
        have D3 : H3 D = some (.lst us) := O3 _ _ Dp hDu
        refine ⟨us, D3, ?_, (O2.trans O3).updN HD, h3.upd Dp Dq, us ++ [.ref l], bs ++ [row], upd_same, ?_, by rw [List.length_append, hl]; rfl, hb.app nd (by rw [hl]; exact hlt) hl3'⟩
        · rw [hU.len, hl]
          show i < 2 ^ 24
          omega
        · exact ((hU.keep (KeepX.oth O3 h2)).app (.cons ⟨l, rfl, lD, e3⟩ .nil)).keep KeepX.upd
      · rintro H2 ⟨O2, h2, us, bs, hDu, hU, hl, hb⟩
        exact k D H2 us bs O2 h2 HD hDu hU hl hb
    · have r2 : ¬ r < 2 := fun z => hr2 (decide_eq_true z)
      intro T uT H2 s2 hT hTab
      have hTab' : TabsI H2 uT (shapeTab.map cz) := hTab
      refine ⟨_, rfl, _, _, rfl, rfl, ?_⟩
      obtain ⟨j, rfl⟩ : ∃ j : Nat, r = ((j + 2 : Nat) : Int) := ⟨(r - 2).toNat, by omega⟩
      have jl : j < shapeTab.length := by
        show j < 6
        omega
      obtain ⟨tab, htab⟩ : ∃ tab, shapeTab[j]? = some tab := ⟨_, List.getElem?_eq_getElem jl⟩
      have tok := shapeTab_ok tab (List.mem_of_getElem? htab)
      obtain ⟨t, ut, et, h1t, h2t⟩ := hTab'.get (i := j) (l := cz tab) (by rw [List.getElem?_map, htab]; rfl)
      refine ⟨T, uT, _, _, rfl, rfl, SqL.of hT, by rw [show ((j + 2 : Nat) : Int) - 2 = (j : Int) by omega]; exact atI_nat et, ?_⟩
      have O2 : Oth p H H2 := O1.trans (Oth.of s2)
      have hh2 := h1.same s2
      refine ⟨_, rfl, _, rfl, _, rfl, t, ut, rfl, SqL.of h1t, fun S hS => ?_⟩
      rw [cutV_take]
      have sS : Same H2 (upd H2 S (.lst (ut.take n))) := same_new hS
      refine ⟨S, rfl, ⟨_, SqL.of upd_same⟩, fun D hD => ?_⟩
      have hD2 : H2 D = none := by
        cases e : H2 D with
        | none => rfl
        | some o =>
          rw [sS _ _ e] at hD
          cases hD
      obtain ⟨Dp, Dq⟩ := hh2.ne hD2
      have HD : H D = none := oth_free O2 Dp hD2
      have sD := same_new (o := .lst []) hD
      refine lc_list (K := K) (a := S) (xs := ut.take n) (fun i H3 => Same (upd H2 S (.lst (ut.take n))) H3 ∧ ∃ us, H3 D = some (.lst us) ∧ LsN D H3 us ((tab.take n).take i)) ⟨sD, [], upd_same, .nil⟩ (fun i H3 _ h => SqL.of (h.1 _ _ upd_same)) ?_ ?_
      · rintro i y H3 hi ⟨s3, us, hDu, hU⟩
        have lut : ut.length = tab.length := by
          have := Paired.length h2t
          unfold cz at this
          rw [List.length_map] at this
          exact this
        have hi1 : i < (tab.take n).length := by
          have := (List.getElem?_eq_some_iff.mp hi).1
          rw [List.length_take] at this ⊢
          omega
        have hin : i < n := by
          rw [List.length_take] at hi1
          omega
        obtain ⟨row, hrow⟩ : ∃ row, (tab.take n)[i]? = some row := ⟨_, List.getElem?_eq_getElem hi1⟩
        have hrow0 : tab[i]? = some row := by
          rw [List.getElem?_take, if_pos hin] at hrow
          exact hrow
        obtain ⟨a, ea, ha⟩ := h2t.get (i := i) (l := row.map fun (n : Nat) => (n : Int)) (by unfold cz; rw [List.getElem?_map, hrow0]; rfl)
        obtain rfl : V.ref a = y := by
          rw [List.getElem?_take, if_pos hin, ea] at hi
          exact Option.some.inj hi
        refine ⟨rfl, _, rfl, a, _, rfl, .inl (SqL.of (s3 _ _ (sS _ _ ha))), fun L hL => ?_⟩
        have sL := same_new (o := .lst ((row.map fun (n : Nat) => (n : Int)).map V.int)) hL
        have LD : L ≠ D := fun z => by
          rw [z, hDu] at hL
          cases hL
        refine ⟨us, sL _ _ hDu, ?_, same_upd (s3.trans sL) hD, us ++ [.ref L], upd_same, ?_⟩
        · rw [hU.len, List.length_take]
          show _ < 2 ^ 24
          omega
        · rw [List.take_add_one, hrow, Option.toList_some]
          refine ((hU.keep (KeepX.of sL)).app (.cons ⟨L, rfl, LD, ?_⟩ .nil)).keep KeepX.upd
          rw [natsI]
          exact upd_same
      · rintro H3 ⟨s3, us, hDu, hU⟩
        have lut : ut.length = tab.length := by
          have := Paired.length h2t
          unfold cz at this
          rw [List.length_map] at this
          exact this
        have O3 : Oth p H H3 := (O2.trans (Oth.of sS)).trans (Oth.of s3)
        have hh3 := (hh2.same sS).same s3
        rw [List.length_take, lut, ← List.length_take, List.take_length] at hU
        have ltab : (tab.take n).length ≤ n := by
          rw [List.length_take]
          omega
        -- from here on the list stands at D
        let Mid : L2.St → Hp → Prop := fun σ H' => ∃ (x6 x7 : Option V), σ = [some (.ref p), some (.int (n : Int)), some (.int ((j + 2 : Nat) : Int)), none, some (.ref t), some (.ref D), x6, x7] ∧ Oth p H H' ∧ HandAt H' p q ∧ ∃ us bs, H' D = some (.lst us) ∧ LsN D H' us bs ∧ bs.length ≤ n ∧ BOk bs
        refine while_by (fun σ H' => Mid σ H') (fun σ H' => match H' D with | some (.lst us) => n - us.length | _ => 0) ⟨_, _, rfl, O3, hh3, us, tab.take n, hDu, hU, ltab, tok.take n⟩ ?_ ?_
        · rintro σ H' ⟨x6, x7, rfl, O4, h4, us, bs, hDu, hU, hl, hb⟩
          refine ⟨_, rfl, D, us, rfl, .inl (SqL.of hDu), _, rfl, _, _, rfl, rfl, _, rfl, ?_⟩
          refine ite2 (fun hlt => ?_) (fun hge => ?_)
          · have hlt' : (us.length : Int) < (n : Int) := of_decide_eq_true hlt
            refine ⟨_, rfl, .inl ⟨rfl, _, SqL.of hDu⟩, _, rfl, _, rfl, D, us, rfl, .inl (SqL.of hDu), p, q, us.length, rfl, by omega, h4, fun l H5 row O5 h5 hl5 e5 nd hlt5 hl5' => ?_⟩
            have lD : l ≠ D := fun z => by
              rw [z, hDu] at hl5
              cases hl5
            have D5 : H5 D = some (.lst us) := O5 _ _ Dp hDu
            refine ⟨D, us, _, rfl, rfl, D5, by (show us.length < 2 ^ 24); omega, ⟨_, _, rfl, (O4.trans O5).updN HD, h5.upd Dp Dq, us ++ [.ref l], bs ++ [row], upd_same, ?_, ?_, hb.app nd (by rw [← hU.len]; exact hlt5) hl5'⟩, ?_⟩
            · exact ((hU.keep (KeepX.oth O5 h4)).app (.cons ⟨l, rfl, lD, e5⟩ .nil)).keep KeepX.upd
            · rw [List.length_append, ← hU.len]
              show us.length + 1 ≤ n
              omega
            · show (match upd H5 D (.lst (us ++ [.ref l])) D with | some (.lst us) => n - us.length | _ => 0) < (match H' D with | some (.lst us) => n - us.length | _ => 0)
              rw [upd_same, hDu]
              show n - (us ++ [V.ref l]).length < n - us.length
              rw [List.length_append, List.length_singleton]
              omega
          · have hge' : ¬ (us.length : Int) < (n : Int) := fun z => hge (decide_eq_true z)
            have hbn : bs.length = n := by
              have := hU.len
              omega
            refine ⟨_, rfl, _, rfl, p, q, (n : Int), rfl, by omega, by omega, h4, fun r5 H5 r50 r51 h5 e5 => ?_⟩
            obtain ⟨m, rfl⟩ : ∃ m : Nat, r5 = (m : Int) := ⟨r5.toNat, by omega⟩
            refine ⟨_, rfl, p, q, 3, rfl, by decide, by decide, h5, fun r6 H6 r60 r61 h6 e6 => ?_⟩
            have O5 : Oth p H' H5 := Oth.take e5
            have O6 : Oth p H5 H6 := Oth.take e6
            have D6 : H6 D = some (.lst us) := O6 _ _ Dp (O5 _ _ Dp hDu)
            have hU6 : LsN D H6 us bs := (hU.keep (KeepX.oth O5 h4)).keep (KeepX.oth O6 h5)
            have O46 := (O4.trans O5).trans O6
            refine ⟨rfl, _, rfl, ?_⟩
            refine ite2 (fun _ => ?_) (fun _ => ⟨_, rfl, k D H6 us bs O46 h6 HD D6 hU6 hbn hb⟩)
            refine ⟨_, rfl, _, rfl, p, q, m, rfl, by omega, h6, fun l H7 row O7 h7 hl7 e7 nd hlt7 hl7' => ?_⟩
            have lD : l ≠ D := fun z => by
              rw [z, D6] at hl7
              cases hl7
            have D7 : H7 D = some (.lst us) := O7 _ _ Dp D6
            have mus : m < us.length := by
              have := hU.len
              omega
            refine ⟨_, rfl, _, rfl, D, us, _, m, rfl, rfl, D7, ?_, ?_⟩
            · exact ixN_at mus
            · refine ⟨_, rfl, k D _ (us.set m (.ref l)) (bs.set m row) ((O46.trans O7).updN HD) (h7.upd Dp Dq) HD upd_same ?_ (by rw [List.length_set]; exact hbn) (hb.set nd hlt7 hl7')⟩
              exact ((hU6.keep (KeepX.oth O7 h6)).keep KeepX.upd).set lD (upB lD e7) m
        · intro σ H' Q Q' hq hc
          obtain ⟨v, e1, a, us, e2, sq, v2, e3, i, j, e4, e5, b, e6, q⟩ := hc
          exact ⟨v, e1, a, us, e2, sq, v2, e3, i, j, e4, e5, b, e6, hq _ _ q⟩
end
end K15

set_option maxRecDepth 100000
set_option maxHeartbeats 8000000
namespace K15
open PySem PySem.Spec PyProof.Rows L2 Kw
/-- a law's own rows (bases, fields, methods), nothing of them at R -/
def RwN (R : Addr) (H : Hp) : List V → List Ent → Prop := Paired fun v d => ∃ t b m, v = .ref t ∧ t ≠ R ∧ H t = some (.tup [.ref b, natV d.2.1, .ref m]) ∧ b ≠ R ∧ H b = some (.lst (d.1.map natV)) ∧ m ≠ R ∧ H m = some (.lst (d.2.2.map natV))
theorem RwN.keep {R : Addr} {H H' : Hp} (k : KeepX R H H') : ∀ {vs : List V} {ls : List Ent}, RwN R H vs ls → RwN R H' vs ls
  | [], [], _ => .nil
  | _ :: _, _ :: _, .cons ⟨t, b, m, e, n1, h1, n2, h2, n3, h3⟩ r => .cons ⟨t, b, m, e, n1, k _ _ n1 h1 (.inl ⟨_, rfl⟩), n2, k _ _ n2 h2 (ints_o _), n3, k _ _ n3 h3 (ints_o _)⟩ (RwN.keep k r)
theorem RwN.get {R : Addr} {H : Hp} : ∀ {vs : List V} {ls : List Ent} {i : Nat} {d : Ent}, RwN R H vs ls → ls[i]? = some d → ∃ t b m, vs[i]? = some (.ref t) ∧ H t = some (.tup [.ref b, natV d.2.1, .ref m]) ∧ H b = some (.lst (d.1.map natV)) ∧ H m = some (.lst (d.2.2.map natV))
  | [], [], _, _, _, h => by simp at h
  | _ :: _, _ :: _, 0, _, .cons ⟨t, b, m, e1, n1, h1, n2, h2, n3, h3⟩ _, e => by
    obtain rfl := Option.some.inj e
    exact ⟨t, b, m, by rw [e1]; rfl, h1, h2, h3⟩
  | _ :: _, _ :: _, i + 1, _, .cons _ r, e => RwN.get (i := i) r e
theorem RwN.app {R : Addr} {H : Hp} : ∀ {vs us : List V} {ls ms : List Ent}, RwN R H vs ls → RwN R H us ms → RwN R H (vs ++ us) (ls ++ ms)
  | [], _, [], _, _, h => h
  | _ :: _, _, _ :: _, _, .cons h r, s => .cons h (RwN.app r s)
theorem RwN.len {R : Addr} {H : Hp} {vs : List V} {ls : List Ent} (h : RwN R H vs ls) : vs.length = ls.length := Paired.length h
theorem RwN.rows {R : Addr} {H : Hp} : ∀ {vs : List V} {ls : List Ent}, RwN R H vs ls → RowsAt H vs (ls.map (·.1))
  | [], [], _ => .nil
  | _ :: _, _ :: _, .cons ⟨t, b, m, e, n1, h1, n2, h2, n3, h3⟩ r => .cons ⟨t, b, _, _, e, h1, .inl h2⟩ (RwN.rows r)
/-- right rows -/
def EOk (i : Nat) (d : Ent) : Prop := d.1.Nodup ∧ (∀ b ∈ d.1, b < i) ∧ d.1.length ≤ 3 ∧ d.2.1 ≤ 3 ∧ d.2.2.Pairwise (· < ·) ∧ (∀ m ∈ d.2.2, m < 6) ∧ d.2.2.length ≤ 3
def DsOk (ds : List Ent) : Prop := ∀ (i : Nat) (d : Ent), ds[i]? = some d → EOk i d
theorem DsOk.app {ds : List Ent} {d : Ent} (h : DsOk ds) (z : EOk ds.length d) : DsOk (ds ++ [d]) := fun i r e => by
  by_cases q : i < ds.length
  · rw [List.getElem?_append_left q] at e
    exact h i r e
  · rw [List.getElem?_append_right (by omega)] at e
    by_cases q2 : i - ds.length = 0
    · rw [q2] at e
      obtain rfl : d = r := Option.some.inj e
      have : i = ds.length := by omega
      rw [this]
      exact z
    · rw [List.getElem?_eq_none (by rw [List.length_singleton]; omega)] at e
      cases e
theorem DsOk.valid {ds : List Ent} (h : DsOk ds) : validB (ds.map (·.1)) := fun c row e b hb => by
  rw [List.getElem?_map] at e
  obtain ⟨d, hd, rfl⟩ := Option.map_eq_some_iff.mp e
  exact (h c d hd).2.1 b hb
theorem DsOk.short {ds : List Ent} (h : DsOk ds) : ∀ row ∈ ds.map (·.1), row.length ≤ 3 := fun row hr => by
  obtain ⟨d, hd, rfl⟩ := List.mem_map.mp hr
  obtain ⟨i, hi⟩ := List.mem_iff_getElem?.mp hd
  exact (h i d hi).2.2.1
/-- as World takes them -/
theorem RwN.entries {R : Addr} {H : Hp} {vs : List V} {ds : List Ent} (h : RwN R H vs ds) (ok : DsOk ds) : ∀ (i : Nat) (d : Ent), ds[i]? = some d → ∃ e, vs[i]? = some e ∧ EntryOk H e i d := fun i d hd => by
  obtain ⟨t, b, m, e, h1, h2, h3⟩ := h.get hd
  obtain ⟨o1, o2, o3, o4, o5, o6, o7⟩ := ok i d hd
  exact ⟨_, e, t, b, m, rfl, .inr h1, .inl h2, .inl h3, ⟨o1, by omega, o2⟩, o4, up_nodup o5, o7, o6⟩
section
variable {P : Program} {w : World} {K : PySem.W.Frag} {mg : Str → Option Value} {base : Heap} {f fT fM fB fS fMe : Addr} {fd fdT fdM fdB fdS fdMe : FuncData}
def spClasses : Sp := fun vs H Q _ => ∃ (p q : Addr) (lo hi most : Nat) (wanted : Bool), vs = [.ref p, .int (lo : Int), .int (hi : Int), .int (most : Int), .bl wanted] ∧ 1 ≤ lo ∧ lo ≤ hi ∧ hi ≤ 12 ∧ HandAt H p q ∧
  ∀ l H' us (ds : List Ent), Oth p H H' → HandAt H' p q → H l = none → H' l = some (.lst us) → RwN l H' us ds → lo ≤ ds.length → ds.length ≤ hi → DsOk ds → Q (.ref l) H'
theorem sc_classes : FnScope ["_law_hand_here", "_law_low", "_law_high", "_law_most", "_law_wanted", "_law_many", "_law_bases_here", "_law_rest", "_law_rows", "_law_own", "_law_fields"] ["_law_hand_here", "_law_low", "_law_high", "_law_most", "_law_wanted"] (defScope (top 41)) := ⟨rfl, rfl, rfl, by decide +kernel, rfl, by decide +kernel, by decide +kernel⟩
theorem ok_classes (F : FnP K "_law_classes" 41 f fd) (B : Fr mg) (FT : FnP K "_law_take" 37 fT fdT) (mT : mg "_law_take" = some (.ref fT)) (FM : FnP K "_law_mixed" 36 fM fdM) (mM : mg "_law_mixed" = some (.ref fM)) (FB : FnP K "_law_bases" 38 fB fdB) (mB : mg "_law_bases" = some (.ref fB))
    (FS : FnP K "_law_shape" 40 fS fdS) (mS : mg "_law_shape" = some (.ref fS)) (FMe : FnP K "_law_methods" 39 fMe fdMe) (mMe : mg "_law_methods" = some (.ref fMe)) (gMax : mg "max" = none) (gMin : mg "min" = none) :
    FnOk P w K mg base CX0 5 f fd ["_law_hand_here", "_law_low", "_law_high", "_law_most", "_law_wanted"] spClasses := by
  have GT : FnOk P w K mg base CX0 2 fT fdT ["_law_hand_here", "_law_many"] spTake := ok_take FT FM mM B.int B.len
  have bT : L2.Binds K fdT ["_law_hand_here", "_law_many"] [] := FT.bindsN fun _ _ _ _ _ _ us hl => match us, hl with | [_, _], _ => rfl
  have GS : FnOk P w K mg base CX0 4 fS fdS ["_law_hand_here", "_law_many"] spShape := ok_shape FS B FT mT FM mM FB mB
  have bS : L2.Binds K fdS ["_law_hand_here", "_law_many"] [] := FS.bindsN fun _ _ _ _ _ _ us hl => match us, hl with | [_, _], _ => rfl
  have GMe : FnOk P w K mg base CX0 3 fMe fdMe ["_law_hand_here"] spMethods := ok_methods FMe B FT mT FM mM
  have bMe : L2.Binds K fdMe ["_law_hand_here"] [] := FMe.bindsN fun _ _ _ _ _ _ us hl => match us, hl with | [_], _ => rfl
  refine F.ok sc_classes (fun vs H Q E h => ?_) (fun cdv A outer s H vs Q E hr h => ?_)
  · obtain ⟨p, q, lo, hi, most, wanted, rfl, _⟩ := h
    rfl
  · obtain ⟨p, q, lo, hi, most, wanted, rfl, l1, l2, l3, hh, k⟩ := h
    refine ⟨_, PSs.nox (pss_cons (ps_set (i := 5) sc_classes.nd rfl (Or.inl rfl) (pe_op op_add (pv 1) (pe_callB (call_max2 rfl) (by rfl) gMax (by decide +kernel)
        (pa_cons (pe_call GT (hr.mono (by decide)) (by rfl) mT FT.kp bT .nil pass0 (pa_cons (pv 0) (pa_cons (pe_op op_add (pe_op op_sub (pv 2) (pv 1)) pe_int) pa_nil)))
        (pa_cons (pe_call GT (hr.mono (by decide)) (by rfl) mT FT.kp bT .nil pass0 (pa_cons (pv 0) (pa_cons (pe_op op_add (pe_op op_sub (pv 2) (pv 1)) pe_int) pa_nil))) pa_nil)))))
      (pss_cons (ps_set (i := 6) sc_classes.nd rfl (Or.inl rfl) (pe_call GS hr (by rfl) mS FS.kp bS .nil pass0 (pa_cons (pv 0) (pa_cons (pv 5) pa_nil))))
      (pss_cons (ps_set (i := 7) sc_classes.nd rfl (Or.inl rfl) (pv 3))
      (pss_cons (ps_set (i := 8) sc_classes.nd rfl (Or.inl rfl) (pe_lst pa_nil))
      (pss_cons (ps_for PassesOwn.never rfl (pi_list (pv 6)) (pg_name (i := 9) sc_classes.nd rfl (Or.inl rfl))
        (pss_cons (ps_set (i := 10) sc_classes.nd rfl (Or.inl rfl) (pe_callB (call_min2 rfl) (by rfl) gMin (by decide +kernel) (pa_cons (pv 7)
          (pa_cons (pe_ix ix_tup (pe_tup (pa_cons pe_int (pa_cons pe_int (pa_cons pe_int (pa_cons pe_int (pa_cons pe_int (pa_cons pe_int (pa_cons pe_int (pa_cons pe_int (pa_cons pe_int (pa_cons pe_int pa_nil))))))))))) (pe_call GT (hr.mono (by decide)) (by rfl) mT FT.kp bT .nil pass0 (pa_cons (pv 0) (pa_cons pe_int pa_nil))) (fun _ _ => rfl)) pa_nil))))
        (pss_cons (ps_set (i := 7) sc_classes.nd rfl (Or.inl rfl) (pe_op op_sub (pv 7) (pv 10)))
        (pss_one (ps_expr (pe_bm PySem.F.plainAttrs_list PySem.F.slot_list_append PySem.F.type_list_append mt_append (pv 8) (pa_cons (pe_tup (pa_cons (pv 9) (pa_cons (pv 10)
          (pa_cons (pe_ifExp (pt_val (pv 4)) (pe_call GMe (hr.mono (by decide)) (by rfl) mMe FMe.kp bMe .nil pass0 (pa_cons (pv 0) pa_nil)) (pe_lst pa_nil)) pa_nil)))) pa_nil)))))))
      (pss_one (ps_ret (pv 8)))))))), ?_⟩
    have m0 : (1 : Int) ≤ (hi : Int) - (lo : Int) + 1 := by omega
    have m1 : (hi : Int) - (lo : Int) + 1 < 1073741824 := by omega
    refine ⟨_, rfl, _, rfl, _, rfl, _, rfl, _, _, rfl, rfl, _, _, rfl, rfl, p, q, _, rfl, m0, m1, hh, fun r1 H1 r10 r11 h1 e1 => ?_⟩
    refine ⟨_, rfl, _, rfl, _, rfl, _, _, rfl, rfl, _, _, rfl, rfl, p, q, _, rfl, m0, m1, h1, fun r2 H2 r20 r21 h2 e2 => ?_⟩
    have O2 : Oth p H H2 := (Oth.take e1).trans (Oth.take e2)
    refine ⟨_, _, rfl, _, _, rfl, rfl, ?_⟩
    obtain ⟨n, en, n1, n2⟩ : ∃ n : Nat, (lo : Int) + (if r2 > r1 then r2 else r1) = (n : Int) ∧ lo ≤ n ∧ n ≤ hi := by
      refine ⟨((lo : Int) + (if r2 > r1 then r2 else r1)).toNat, ?_, ?_, ?_⟩ <;> split <;> omega
    have en' : V.int ((lo : Int) + (if r2 > r1 then r2 else r1)) = natV n := by rw [en]; rfl
    show gName 5 (V.int ((lo : Int) + (if r2 > r1 then r2 else r1))) _ _ _
    rw [en']
    refine ⟨_, rfl, _, rfl, p, q, n, rfl, by omega, by omega, h2, fun l H3 ul bs O3 h3 hl3 L3 hU3 hbn hb3 => ?_⟩
    have O3' := O2.trans O3
    obtain ⟨lp, lq⟩ := h2.ne hl3
    refine ⟨_, rfl, by decide, fun D hD => ?_⟩
    obtain ⟨Dp, Dq⟩ := h3.ne hD
    have HD : H D = none := oth_free O3' Dp hD
    have sD := same_new (o := .lst []) hD
    have lD : l ≠ D := fun z => by
      rw [z, hD] at L3
      cases L3
    refine ⟨_, rfl, l, rfl, ⟨_, SqL.of (sD _ _ L3)⟩, for_list (K := K) (a := l) (xs := ul) (fun i σ H' => ∃ (rest : Nat) (x9 x10 : Option V), σ = [some (.ref p), some (.int (lo : Int)), some (.int (hi : Int)), some (.int (most : Int)), some (.bl wanted), some (natV n), some (.ref l), some (.int (rest : Int)), some (.ref D), x9, x10] ∧
        Oth p H H' ∧ HandAt H' p q ∧ H' l = some (.lst ul) ∧ LsN D H' ul bs ∧ ∃ us ds, H' D = some (.lst us) ∧ RwN D H' us ds ∧ ds.length = i ∧ DsOk ds)
      ⟨most, none, none, rfl, O3'.updN HD, h3.upd Dp Dq, sD _ _ L3, ?_, [], [], upd_same, .nil, rfl, fun i d e => by simp at e⟩ (fun i σ H' _ ⟨_, _, _, _, _, _, h, _⟩ => SqL.of h) ?_ ?_⟩
    · have key : ∀ {vs : List V} {ls : List (List Nat)}, LsN l H3 vs ls → LsN D (upd H3 D (.lst [])) vs ls := fun h => by
        induction h with
        | nil => exact .nil
        | cons z _ ih =>
          obtain ⟨t, e, n, ht⟩ := z
          exact .cons ⟨t, e, fun z => (by rw [z, hD] at ht; cases ht), sD _ _ ht⟩ ih
      exact key hU3
    · rintro i y σ H4 hi4 ⟨rest, x9, x10, rfl, O4, h4, L4, hB4, us, ds, D4, hR4, hl4, ok4⟩
      have hin : i < n := by
        have := (List.getElem?_eq_some_iff.mp hi4).1
        rw [hU3.len, hbn] at this
        exact this
      obtain ⟨row, hrow⟩ : ∃ row, bs[i]? = some row := ⟨_, List.getElem?_eq_getElem (by omega)⟩
      obtain ⟨b, eb, bD, hb⟩ := hB4.get hrow
      obtain rfl : V.ref b = y := Option.some.inj (eb.symm.trans hi4)
      obtain ⟨bo1, bo2, bo3⟩ := hb3 i row hrow
      refine ⟨_, rfl, by (show 10 ≤ sizeLine); decide, fun t ht => ?_⟩
      obtain ⟨tp, tq⟩ := h4.ne ht
      have st := same_new (o := .tup (([1, 1, 0, 1, 2, 1, 2, 1, 1, 3] : List Int).map V.int)) ht
      refine ⟨_, rfl, p, q, 10, rfl, by decide, by decide, h4.upd tp tq, fun r H5 r0 r1 h5 e5 => ?_⟩
      obtain ⟨v, hv, hm⟩ := tab_at (tab := [1, 1, 0, 1, 2, 1, 2, 1, 1, 3]) r0 r1
      have hv3 : 0 ≤ v ∧ v ≤ 3 := (by decide : ∀ v ∈ ([1, 1, 0, 1, 2, 1, 2, 1, 1, 3] : List Int), 0 ≤ v ∧ v ≤ 3) v hm
      have T5 : H5 t = some (.tup (([1, 1, 0, 1, 2, 1, 2, 1, 1, 3] : List Int).map V.int)) := by
        rw [e5 t tp]
        exact upd_same
      have O5 : Oth p H4 H5 := (Oth.of st).trans (Oth.take e5)
      refine ⟨t, _, r, _, rfl, rfl, SqT.of T5, hv, _, _, rfl, ?_⟩
      obtain ⟨g, eg, g3, gr⟩ : ∃ g : Nat, (if v < (rest : Int) then v else (rest : Int)) = (g : Int) ∧ g ≤ 3 ∧ g ≤ rest := by
        refine ⟨(if v < (rest : Int) then v else (rest : Int)).toNat, ?_, ?_, ?_⟩ <;> split <;> omega
      have eg' : V.int (if v < (rest : Int) then v else (rest : Int)) = natV g := by rw [eg]; rfl
      show gName 10 (V.int (if v < (rest : Int) then v else (rest : Int))) _ _ _
      rw [eg']
      refine ⟨_, rfl, _, rfl, _, _, rfl, rfl, ?_⟩
      have er : V.int ((rest : Int) - (g : Int)) = V.int ((rest - g : Nat) : Int) := by congr 1; omega
      show gName 7 (V.int ((rest : Int) - (g : Int))) _ _ _
      rw [er]
      have D5 : H5 D = some (.lst us) := O5 _ _ Dp D4
      -- the end of a turn, the methods' list at m
      have O45 := O4.trans O5
      have hh5 := h5
      have fin : ∀ (m : Addr) (ms : List Nat) (H6 : Hp), Oth p H5 H6 → HandAt H6 p q → H5 m = none → H6 m = some (.lst (ms.map natV)) → ms.Pairwise (· < ·) → (∀ m ∈ ms, m < 6) → ms.length ≤ 3 → ∀ (u : Addr), H6 u = none →
          ∃ (us1 : List V) (ds1 : List Ent), upd (upd H6 u (.tup [.ref b, natV g, .ref m])) D (.lst (us ++ [.ref u])) D = some (.lst us1) ∧ RwN D (upd (upd H6 u (.tup [.ref b, natV g, .ref m])) D (.lst (us ++ [.ref u]))) us1 ds1 ∧ ds1.length = i + 1 ∧ DsOk ds1 := by
        intro m ms H6 O6 h6 hm5 hm6 p1 p2 p3 u hu
        have su := same_new (o := .tup [.ref b, natV g, .ref m]) hu
        have D6 : H6 D = some (.lst us) := O6 _ _ Dp D5
        have uD : u ≠ D := fun z => by
          rw [z, D6] at hu
          cases hu
        have mD : m ≠ D := fun z => by
          rw [z, D5] at hm5
          cases hm5
        have kb : KeepX D H4 H6 := (KeepX.oth O5 h4).trans (KeepX.oth O6 h5)
        refine ⟨us ++ [.ref u], ds ++ [(row, g, ms)], upd_same, ?_, by rw [List.length_append, hl4]; rfl, ok4.app ⟨bo1, by rw [hl4]; exact bo2, bo3, g3, p1, p2, p3⟩⟩
        refine (((hR4.keep kb).keep (KeepX.of su)).app (.cons ⟨u, b, m, rfl, uD, upd_same, bD, ?_, mD, su _ _ hm6⟩ .nil)).keep KeepX.upd
        exact su _ _ (kb _ _ bD hb (ints_o _))
      have inv : ∀ (m : Addr) (ms : List Nat) (H6 : Hp), Oth p H5 H6 → HandAt H6 p q → H5 m = none → H6 m = some (.lst (ms.map natV)) → ms.Pairwise (· < ·) → (∀ m ∈ ms, m < 6) → ms.length ≤ 3 → ∀ (u : Addr), H6 u = none →
          H6 D = some (.lst us) ∧ Oth p H (upd (upd H6 u (.tup [.ref b, natV g, .ref m])) D (.lst (us ++ [.ref u]))) ∧ HandAt (upd (upd H6 u (.tup [.ref b, natV g, .ref m])) D (.lst (us ++ [.ref u]))) p q ∧
          upd (upd H6 u (.tup [.ref b, natV g, .ref m])) D (.lst (us ++ [.ref u])) l = some (.lst ul) ∧ LsN D (upd (upd H6 u (.tup [.ref b, natV g, .ref m])) D (.lst (us ++ [.ref u]))) ul bs := by
        intro m ms H6 O6 h6 hm5 hm6 p1 p2 p3 u hu
        have su := same_new (o := .tup [.ref b, natV g, .ref m]) hu
        have D6 : H6 D = some (.lst us) := O6 _ _ Dp D5
        refine ⟨D6, Oth.updN ((O45.trans O6).trans (Oth.of su)) HD, (h6.same su).upd Dp Dq, upB lD (su _ _ (O6 _ _ lp (O5 _ _ lp L4))), ?_⟩
        exact (((hB4.keep (KeepX.oth O5 h4)).keep (KeepX.oth O6 h5)).keep (KeepX.of su)).keep KeepX.upd
      have dl : us.length < 2 ^ 24 := by
        have := hR4.len
        omega
      refine ⟨_, rfl, .inl ⟨rfl, _, SqL.of D5⟩, _, rfl, _, rfl, _, rfl, wanted, rfl, ?_⟩
      cases wanted with
      | true =>
        refine iteT ⟨_, rfl, p, q, rfl, h5, fun m H6 ms O6 h6 hm5 hm6 p1 p2 p3 => ⟨by (show 3 ≤ sizeLine); decide, fun u hu => ?_⟩⟩
        obtain ⟨us1, ds1, f1, f2, f3, f4⟩ := fin m ms H6 O6 h6 hm5 hm6 p1 p2 p3 u hu
        obtain ⟨v1, v2, v3, v4, v5⟩ := inv m ms H6 O6 h6 hm5 hm6 p1 p2 p3 u hu
        exact ⟨D, us, _, rfl, rfl, same_new hu _ _ v1, dl, rest - g, _, _, rfl, v2, v3, v4, v5, us1, ds1, f1, f2, f3, f4⟩
      | false =>
        refine iteF ⟨by decide, fun m hm => ⟨by (show 3 ≤ sizeLine); decide, fun u hu => ?_⟩⟩
        have sm := same_new (o := .lst []) hm
        obtain ⟨mp, mq⟩ := h5.ne hm
        obtain ⟨us1, ds1, f1, f2, f3, f4⟩ := fin m [] _ (Oth.of sm) (h5.same sm) hm upd_same .nil (fun _ z => by cases z) (by decide) u hu
        obtain ⟨v1, v2, v3, v4, v5⟩ := inv m [] _ (Oth.of sm) (h5.same sm) hm upd_same .nil (fun _ z => by cases z) (by decide) u hu
        exact ⟨D, us, _, rfl, rfl, same_new hu _ _ v1, dl, rest - g, _, _, rfl, v2, v3, v4, v5, us1, ds1, f1, f2, f3, f4⟩
    · rintro σ H4 ⟨rest, x9, x10, rfl, O4, h4, L4, hB4, us, ds, D4, hR4, hl4, ok4⟩
      have : ul.length = n := by rw [hU3.len, hbn]
      exact ⟨_, rfl, k D H4 us ds O4 h4 HD D4 hR4 (by omega) (by omega) ok4⟩
end
end K15

set_option maxRecDepth 100000
set_option maxHeartbeats 8000000
namespace K15
open PySem PySem.Spec PyProof.Rows L2 Kw
/-! ### a law's own kin, hues and clashes -/
def kinOf (els : List (List Nat)) (c : Nat) : List Nat := els.getD c [] ++ [c]
def kins (els : List (List Nat)) : List (List Nat) := (List.range els.length).map (kinOf els)
theorem kins_len (els : List (List Nat)) : (kins els).length = els.length := by
  unfold kins
  rw [List.length_map, List.length_range]
theorem kins_at {els : List (List Nat)} {c : Nat} (h : c < els.length) : (kins els)[c]? = some (kinOf els c) := by
  unfold kins
  rw [List.getElem?_map, List.getElem?_range h]
  rfl
theorem kins_getD {els : List (List Nat)} {c : Nat} (h : c < els.length) : (kins els).getD c [] = kinOf els c := by
  rw [List.getD_eq_getElem?_getD, kins_at h]
  rfl
def hV : Option Nat → V
  | none => .non
  | some n => natV n
def hueOf (hs : List (Option Nat)) (x : Nat) : Option Nat := hs.getD x none
theorem hue_at {hs : List (Option Nat)} {x : Nat} (h : x < hs.length) : (hs.map hV)[x]? = some (hV (hueOf hs x)) := by
  unfold hueOf
  rw [List.getElem?_map, List.getElem?_eq_getElem h, List.getD_eq_getElem?_getD, List.getElem?_eq_getElem h]
  rfl
theorem hV_inj {a b : Option Nat} (h : hV a = hV b) : a = b := by
  cases a <;> cases b
  · rfl
  · cases h
  · cases h
  · exact congrArg some (by have := V.int.inj h; omega)
theorem hV_eq (a b : Option Nat) : decide (hV a = hV b) = (a == b) := by
  rw [Bool.eq_iff_iff, decide_eq_true_iff, beq_iff_eq]
  exact ⟨hV_inj, fun h => by rw [h]⟩
theorem hV_scal (a b : Option Nat) : scal (hV a) (hV b) = true := by cases a <;> cases b <;> rfl
theorem hV_non (a : Option Nat) : decide (hV a = V.non) = a.isNone := by cases a <;> rfl
def OptTup (H : Hp) (v : V) (o : Option (List Nat)) : Prop := (o = none ∧ v = .non) ∨ ∃ l t, o = some l ∧ v = .ref t ∧ H t = some (.tup (l.map natV))
theorem OptTup.same {H H' : Hp} {v : V} {o : Option (List Nat)} (h : OptTup H v o) (s : Same H H') : OptTup H' v o := by
  rcases h with h | ⟨l, t, e1, e2, h⟩
  · exact .inl h
  · exact .inr ⟨l, t, e1, e2, s _ _ h⟩
def Least (c : Nat → Nat → Bool) (xs : List Nat) (o : Option (List Nat)) : Prop :=
  (o = none ∧ ∀ a ∈ xs, ∀ b ∈ xs, c a b = false) ∨ ∃ a b, o = some [a, b] ∧ a ∈ xs ∧ b ∈ xs ∧ c a b = true ∧ ∀ a' ∈ xs, ∀ b' ∈ xs, c a' b' = true → a < a' ∨ (a = a' ∧ b ≤ b')
theorem Least.one {c : Nat → Nat → Bool} {xs : List Nat} {o o' : Option (List Nat)} (h : Least c xs o) (h' : Least c xs o') : o = o' := by
  rcases h with ⟨rfl, h⟩ | ⟨a, b, rfl, ha, hb, hc, hm⟩
  · rcases h' with ⟨rfl, _⟩ | ⟨a, b, rfl, ha, hb, hc, hm⟩
    · rfl
    · rw [h a ha b hb] at hc
      cases hc
  · rcases h' with ⟨rfl, h'⟩ | ⟨a', b', rfl, ha', hb', hc', hm'⟩
    · rw [h' a ha b hb] at hc
      cases hc
    · have z1 := hm a' ha' b' hb' hc'
      have z2 := hm' a ha b hb hc
      have : a = a' ∧ b = b' := by omega
      rw [this.1, this.2]
def condL (ks : List (List Nat)) (hs : List (Option Nat)) (a b : Nat) : Bool := decide (a < b) && ((hueOf hs a).isSome && ((hueOf hs a == hueOf hs b) && !((ks.getD b []).contains a)))
section
variable {P : Program} {w : World} {K : PySem.W.Frag} {mg : Str → Option Value} {base : Heap} {f fE fP : Addr} {fd fdE fdP : FuncData}
def spKin : Sp := fun vs H Q _ => ∃ (a : Addr) (ws : List V) (bs : List (List Nat)), vs = [.ref a] ∧ H a = some (.lst ws) ∧ RowsAt H ws bs ∧ validB bs ∧ bs.length ≤ 12 ∧ (∀ row ∈ bs, row.length ≤ 4) ∧
  ∀ H' l us, Same H H' → H l = none → H' l = some (.lst us) → (∀ v ∈ us, v ≠ .ref l) → ListsAt H' us (kins (elders bs)) → Q (.ref l) H'
theorem elders_row_up (bs : List (List Nat)) (c : Nat) (l : List Nat) (h : (elders bs)[c]? = some l) : l.Pairwise (· < ·) := by
  have key : ∀ (bs : List (List Nat)) (acc : List (List Nat)), (∀ l ∈ acc, l.Pairwise (· < ·)) → ∀ l ∈ bs.foldl (fun rows row => rows ++ [elStep rows row]) acc, l.Pairwise (· < ·) := by
    intro bs
    induction bs with
    | nil => intro acc h; exact h
    | cons b r ih =>
      intro acc h l hl
      rw [List.foldl_cons] at hl
      refine ih _ (fun l hl => ?_) l hl
      rcases List.mem_append.mp hl with hl | hl
      · exact h l hl
      · rw [List.mem_singleton.mp hl]
        exact elStep_up _ _
  exact key bs [] (fun l hl => by cases hl) l (List.mem_of_getElem? h)
theorem kin_up (bs : List (List Nat)) (c : Nat) (h : c < bs.length) : (kinOf (elders bs) c).Pairwise (· < ·) ∧ ∀ x ∈ kinOf (elders bs) c, x ≤ c := by
  obtain ⟨l, hl⟩ : ∃ l, (elders bs)[c]? = some l := ⟨_, List.getElem?_eq_getElem (by rw [elders_len]; exact h)⟩
  have e : (elders bs).getD c [] = l := by
    rw [List.getD_eq_getElem?_getD, hl]
    rfl
  unfold kinOf
  rw [e]
  have lt := elders_lt bs c l hl
  refine ⟨List.pairwise_append.mpr ⟨elders_row_up bs c l hl, List.pairwise_singleton _ _, fun a ha b hb => ?_⟩, fun x hx => ?_⟩
  · rw [List.mem_singleton.mp hb]
    exact lt a ha
  · rcases List.mem_append.mp hx with hx | hx
    · exact Nat.le_of_lt (lt x hx)
    · rw [List.mem_singleton.mp hx]
      exact Nat.le_refl _
theorem sc_kin : FnScope ["_law_rows", "_law_elders_here", "_law_c"] ["_law_rows"] (defScope (top 46)) := ⟨rfl, rfl, rfl, by decide +kernel, rfl, by decide +kernel, by decide +kernel⟩
theorem ok_kin (F : FnP K "_law_kin" 46 f fd) (B : Fr mg) (FE : FnP K "_law_elders" 42 fE fdE) (mE : mg "_law_elders" = some (.ref fE)) : FnOk P w K mg base CX0 2 f fd ["_law_rows"] spKin := by
  have GE : FnOk P w K mg base CX0 1 fE fdE ["_law_rows"] spLElders := ok_lelders FE B
  have bE : L2.Binds K fdE ["_law_rows"] [] := FE.bindsN fun _ _ _ _ _ _ us hl => match us, hl with | [_], _ => rfl
  refine F.ok sc_kin (fun vs H Q E h => ?_) (fun cdv A outer s H vs Q E hr h => ?_)
  · obtain ⟨a, ws, bs, rfl, _⟩ := h
    rfl
  · obtain ⟨a, ws, bs, rfl, hA, hT, hv, h12, h4, k⟩ := h
    refine ⟨_, PSs.nox (pss_cons (ps_set (i := 1) sc_kin.nd rfl (Or.inr rfl) (pe_call GE hr (by rfl) mE FE.kp bE .nil pass0 (pa_cons (pv 0) pa_nil)))
      (pss_one (ps_ret (pe_lc (own := [("_law_c", 2)]) (g := gName 2) (tt := tYes) rfl sc_kin.nd (pi_range1 (by rfl) B.range (pa_cons (pe_callB call_len_seq (by rfl) B.len PySem.boot_len (pa_cons (pv 0) pa_nil)) pa_nil)) (blkOk_by (N := ["_law_rows", "_law_elders_here", "_law_c"]) (sc := defScope (top 46)) (by decide +kernel))
          (fun _ _ _ _ _ => pg_name (i := 2) sc_kin.nd rfl (Or.inl rfl)) (fun _ _ _ _ _ => pts_nil)
          (fun _ _ _ _ _ => pe_callB (r := rSortSI K) (call_sortedSI (X := _)) (by rfl) B.sorted (by decide +kernel) (pa_cons (pe_op op_cat (pe_ix (r := rIxL K) ix_list (pv 1) (pv 2) (fun _ _ => rfl)) (pe_lst (pa_cons (pv 2) pa_nil))) pa_nil)))))), ?_⟩
    have hbl : ws.length = bs.length := Paired.length hT
    refine ⟨_, rfl, a, ws, bs, rfl, hA, hT, hv, by omega, fun row hr => ?_, fun H1 l ue s1 hl hl1 hne hE => ?_⟩
    · have h1 := h4 row hr
      have h2 : row.length * bs.length ≤ 4 * 12 := Nat.mul_le_mul h1 h12
      omega
    · refine ⟨_, rfl, a, ws, rfl, .inl (SqL.of (s1 _ _ hA)), _, rfl, by omega, by omega, fun D hD => lc_range (n := ws.length) (fun i H2 => Same H1 H2 ∧ ∃ us, H2 D = some (.lst us) ∧ (∀ v ∈ us, v ≠ .ref D) ∧ ListsAt H2 us ((kins (elders bs)).take i))
        ⟨same_new hD, [], upd_same, (fun v hv => by cases hv), .nil⟩ ?_ ?_⟩
      · rintro i H2 hi ⟨s2, us, hDu, hne2, hU⟩
        have hie : i < (elders bs).length := by
          rw [elders_len]
          omega
        obtain ⟨le, hle⟩ : ∃ le, (elders bs)[i]? = some le := ⟨_, List.getElem?_eq_getElem hie⟩
        obtain ⟨t, et, ht⟩ := hE.get hle
        have hle12 : le.length ≤ 12 := by
          have := elders_len_row _ _ _ hle
          omega
        refine ⟨rfl, _, rfl, _, rfl, l, ue, (0 : Int) + (i : Int), _, rfl, rfl, SqL.of (s2 _ _ hl1), by rw [Int.zero_add]; exact atI_nat et, ?_⟩
        refine ⟨_, rfl, (by show 1 ≤ 2 ^ 24; decide), fun L hL => ?_⟩
        have sL := same_new (o := .lst [V.int ((0 : Int) + (i : Int))]) hL
        refine ⟨t, L, _, _, rfl, rfl, sL _ _ (s2 _ _ ht), upd_same, ?_, fun N1 hN1 => ?_⟩
        · rw [List.length_map]
          show le.length + 1 ≤ 2 ^ 24
          omega
        · have s1' := same_new (o := .lst (le.map natV ++ [V.int ((0 : Int) + (i : Int))])) hN1
          have ek : le.map natV ++ [V.int ((0 : Int) + (i : Int))] = ((kinOf (elders bs) i).map fun (n : Nat) => (n : Int)).map V.int := by
            unfold kinOf
            rw [List.getD_eq_getElem?_getD, hle, ← natsI, List.map_append, Int.zero_add]
            rfl
          obtain ⟨up, _⟩ := kin_up bs i (by omega)
          refine ⟨N1, (kinOf (elders bs) i).map fun (n : Nat) => (n : Int), rfl, .inl (SqL.of (by rw [← ek]; exact upd_same)), fun ys p perm srt hp => ?_⟩
          have sp := same_new (o := .lst (ys.map V.int)) hp
          have sA := ((Same.trans sL s1').trans sp)
          have ey : ys.map V.int = (kinOf (elders bs) i).map natV := sorted_one perm srt (up_nodup up) (up_nodup up) (fun x => Iff.rfl) up
          have pD : p ≠ D := fun z => by
            have y := (Same.trans sL s1') _ _ hDu
            rw [← z, hp] at y
            cases y
          refine ⟨us, sA _ _ hDu, ?_, same_upd (s2.trans sA) hD, us ++ [.ref p], upd_same, fun v hv => ?_, ?_⟩
          · rw [hU.len, List.length_take]
            show _ < 2 ^ 24
            omega
          · rcases List.mem_append.mp hv with hv | hv
            · exact hne2 v hv
            · rw [List.mem_singleton.mp hv]
              exact fun z => pD (V.ref.inj z)
          · rw [List.take_add_one, kins_at hie, Option.toList_some]
            refine (ListsAt.mono (R := D) (fun b o hb e => upB hb (sA _ _ e)) hne2 hU).app (.cons ⟨p, rfl, ?_⟩ .nil)
            rw [← ey]
            exact upB pD upd_same
      · rintro H2 ⟨s2, us, hDu, hne2, hU⟩
        rw [hbl, ← elders_len bs, ← kins_len, List.take_length] at hU
        refine k H2 D us (s1.trans s2) ?_ hDu hne2 hU
        cases e : H D with
        | none => rfl
        | some o =>
          rw [s1 _ _ e] at hD
          cases hD
def spPairAm : Sp := fun vs H Q _ => ∃ (ak ah am : Addr) (us : List V) (ks : List (List Nat)) (hs : List (Option Nat)) (xs : List Nat), vs = [.ref ak, .ref ah, .ref am] ∧ H ak = some (.lst us) ∧ ListsAt H us ks ∧ H ah = some (.lst (hs.map hV)) ∧ H am = some (.lst (xs.map natV)) ∧
  xs.Pairwise (· < ·) ∧ (∀ x ∈ xs, x < ks.length ∧ x < hs.length) ∧ ∀ v H' o, Same H H' → OptTup H' v o → Least (condL ks hs) xs o → Q v H'
theorem sc_pairAm : FnScope ["_law_kin_here", "_law_hues", "_law_among", "_law_first", "_law_second"] ["_law_kin_here", "_law_hues", "_law_among"] (defScope (top 48)) := ⟨rfl, rfl, rfl, by decide +kernel, rfl, by decide +kernel, by decide +kernel⟩
theorem ok_pairAm (F : FnP K "_law_pair_among" 48 f fd) (B : Fr mg) : FnOk P w K mg base CX0 1 f fd ["_law_kin_here", "_law_hues", "_law_among"] spPairAm := by
  refine F.ok sc_pairAm (fun vs H Q E h => ?_) (fun cdv A outer s H vs Q E hr h => ?_)
  · obtain ⟨ak, ah, am, us, ks, hs, xs, rfl, _⟩ := h
    rfl
  · obtain ⟨ak, ah, am, us, ks, hs, xs, rfl, hk, hU, hh, hm, up, hx, k⟩ := h
    refine ⟨_, PSs.nox (pss_cons (ps_for PassesOwn.never rfl (pi_list (pv 2)) (pg_name (i := 3) sc_pairAm.nd rfl (Or.inl rfl))
        (pss_one (ps_for PassesOwn.never rfl (pi_list (pv 2)) (pg_name (i := 4) sc_pairAm.nd rfl (Or.inl rfl))
          (pss_one (ps_if (PW.pt (pw_and (pt_cmpR op_lt (pv 3) (pv 4) (nomark _)) (pw_and (pt_cmpR op_notN (pe_ix ix_list (pv 1) (pv 3) (fun _ _ => rfl)) pe_non (nomark _))
            (pw_and (pt_cmpR op_eq (pe_ix ix_list (pv 1) (pv 3) (fun _ _ => rfl)) (pe_ix ix_list (pv 1) (pv 4) (fun _ _ => rfl)) (nomark _)) (pw_and1 (pt_cmpR (r := rIn K true) op_notIn_seq (pv 3) (pe_ix ix_list (pv 0) (pv 4) (fun _ _ => rfl)) (by rfl)))))))
            (pss_one (ps_ret (pe_tup (pa_cons (pv 3) (pa_cons (pv 4) pa_nil))))) pss_nil)))))
      (pss_one (ps_ret pe_non))), ?_⟩
    refine ⟨_, rfl, am, rfl, ⟨_, SqL.of hm⟩, for_list (K := K) (a := am) (xs := xs.map natV) (fun i σ H' => Same H H' ∧ (∃ x3 x4, σ = [some (.ref ak), some (.ref ah), some (.ref am), x3, x4]) ∧ ∀ i' a, i' < i → xs[i']? = some a → ∀ b ∈ xs, condL ks hs a b = false)
      ⟨Same.refl H, ⟨_, _, rfl⟩, fun i' a z => absurd z (Nat.not_lt_zero _)⟩ (fun i σ H' _ h => SqL.of (h.1 _ _ hm)) ?_ ?_⟩
    · rintro i y σ H' hi ⟨sH, ⟨x3, x4, rfl⟩, hno⟩
      rw [List.getElem?_map] at hi
      obtain ⟨a, ha, rfl⟩ := Option.map_eq_some_iff.mp hi
      obtain ⟨ak1, ah1⟩ := hx a (List.mem_of_getElem? ha)
      refine ⟨_, rfl, am, rfl, ⟨_, SqL.of (sH _ _ hm)⟩, for_list (K := K) (a := am) (xs := xs.map natV) (fun j σ H' => Same H H' ∧ (∃ x4, σ = [some (.ref ak), some (.ref ah), some (.ref am), some (natV a), x4]) ∧ ∀ j' b, j' < j → xs[j']? = some b → condL ks hs a b = false)
        ⟨sH, ⟨_, rfl⟩, fun i' a z => absurd z (Nat.not_lt_zero _)⟩ (fun i σ H' _ h => SqL.of (h.1 _ _ hm)) ?_ ?_⟩
      · rintro j y σ H2 hj ⟨s2, ⟨x4, rfl⟩, hno2⟩
        rw [List.getElem?_map] at hj
        obtain ⟨b, hb, rfl⟩ := Option.map_eq_some_iff.mp hj
        obtain ⟨bk1, bh1⟩ := hx b (List.mem_of_getElem? hb)
        have next : condL ks hs a b = false → Same H H2 ∧ (∃ x4, ([some (.ref ak), some (.ref ah), some (.ref am), some (natV a), some (natV b)] : L2.St) = [some (.ref ak), some (.ref ah), some (.ref am), some (natV a), x4]) ∧ ∀ j' b, j' < j + 1 → xs[j']? = some b → condL ks hs a b = false := fun e => by
          refine ⟨s2, ⟨_, rfl⟩, fun j' b' hj' hb' => ?_⟩
          by_cases z : j' = j
          · rw [z, hb] at hb'
            rw [← Option.some.inj hb']
            exact e
          · exact hno2 j' b' (by omega) hb'
        obtain ⟨kb, hkb⟩ : ∃ kb, ks[b]? = some kb := ⟨_, List.getElem?_eq_getElem bk1⟩
        have hgd : ks.getD b [] = kb := by
          rw [List.getD_eq_getElem?_getD, hkb]
          rfl
        obtain ⟨t, et, ht⟩ := hU.get hkb
        have hh2 := s2 _ _ hh
        refine ⟨_, rfl, _, rfl, _, _, rfl, rfl, _, rfl, ?_⟩
        refine ite2 (fun c1 => ?_) (fun c1 => next ?_)
        · have c1' : (a : Int) < (b : Int) := of_decide_eq_true c1
          have ab : a < b := by omega
          refine ⟨_, rfl, _, rfl, ah, _, _, _, rfl, rfl, SqL.of hh2, atI_nat (hue_at ah1), rfl, _, rfl, ?_⟩
          rw [hV_non]
          cases c2 : (hueOf hs a).isNone with
          | true =>
            refine iteF (next ?_)
            unfold condL
            rw [← Option.not_isNone, c2]
            simp
          | false =>
            refine iteT ⟨_, rfl, _, rfl, ah, _, _, _, rfl, rfl, SqL.of hh2, atI_nat (hue_at ah1), _, rfl, _, rfl, ah, _, _, _, rfl, rfl, SqL.of hh2, atI_nat (hue_at bh1), hV_scal _ _, _, rfl, ?_⟩
            rw [hV_eq]
            cases c3 : (hueOf hs a == hueOf hs b) with
            | false =>
              refine iteF (next ?_)
              unfold condL
              rw [c3]
              simp
            | true =>
              refine iteT ⟨_, rfl, _, rfl, _, rfl, ak, us, _, _, rfl, rfl, SqL.of (s2 _ _ hk), atI_nat et, t, _, rfl, .inl (SqL.of (s2 _ _ ht)), rfl, flat_nats kb, _, rfl, ?_⟩
              have ein : inV (natV a) (kb.map natV) = kb.contains a := inV_nat a kb
              show (if (!inV (natV a) (kb.map natV)) = true then _ else _)
              rw [ein]
              cases c4 : kb.contains a with
              | true =>
                refine iteF (next ?_)
                unfold condL
                rw [hgd, c4]
                simp
              | false =>
                refine iteT ⟨_, rfl, _, rfl, (by show 2 ≤ sizeLine; decide), fun p hp => ?_⟩
                refine k _ _ (some [a, b]) (s2.trans (same_new hp)) (.inr ⟨_, p, rfl, rfl, upd_same⟩) (.inr ⟨a, b, rfl, List.mem_of_getElem? ha, List.mem_of_getElem? hb, ?_, fun a' ha' b' hb' hc => ?_⟩)
                · unfold condL
                  rw [hgd, c4, c3, ← Option.not_isNone, c2, decide_eq_true ab]
                  rfl
                · obtain ⟨i', hi'⟩ := List.mem_iff_getElem?.mp ha'
                  obtain ⟨j', hj'⟩ := List.mem_iff_getElem?.mp hb'
                  have order : ∀ {m n x y : Nat}, xs[m]? = some x → xs[n]? = some y → m < n → x < y := fun hm hn l => by
                    obtain ⟨m1, e1⟩ := List.getElem?_eq_some_iff.mp hm
                    obtain ⟨n1, e2⟩ := List.getElem?_eq_some_iff.mp hn
                    rw [← e1, ← e2]
                    exact List.pairwise_iff_getElem.mp up _ _ m1 n1 l
                  by_cases q1 : i' < i
                  · rw [hno i' a' q1 hi' b' hb'] at hc
                    cases hc
                  · by_cases q2 : i' = i
                    · rw [q2, ha] at hi'
                      obtain rfl := Option.some.inj hi'
                      by_cases q3 : j' < j
                      · rw [hno2 j' b' q3 hj'] at hc
                        cases hc
                      · by_cases q4 : j' = j
                        · rw [q4, hb] at hj'
                          obtain rfl := Option.some.inj hj'
                          exact .inr ⟨rfl, Nat.le_refl _⟩
                        · exact .inr ⟨rfl, Nat.le_of_lt (order hb hj' (by omega))⟩
                    · exact .inl (order ha hi' (by omega))
        · unfold condL
          have : ¬ a < b := fun z => c1 (decide_eq_true (by show (a : Int) < (b : Int); omega))
          rw [decide_eq_false this]
          rfl
      · rintro σ H2 ⟨s2, ⟨x4, rfl⟩, hno2⟩
        refine ⟨s2, ⟨_, _, rfl⟩, fun i' a' hi' ha' b hb => ?_⟩
        by_cases z : i' = i
        · rw [z, ha] at ha'
          obtain rfl := Option.some.inj ha'
          obtain ⟨j, hj⟩ := List.mem_iff_getElem?.mp hb
          have hjl := (List.getElem?_eq_some_iff.mp hj).1
          exact hno2 j b (by rw [List.length_map]; exact hjl) hj
        · exact hno i' a' (by omega) ha' b hb
    · rintro σ H' ⟨sH, ⟨x3, x4, rfl⟩, hno⟩
      refine k .non H' none sH (.inl ⟨rfl, rfl⟩) (.inl ⟨rfl, fun a ha b hb => ?_⟩)
      obtain ⟨i, hi⟩ := List.mem_iff_getElem?.mp ha
      have hil := (List.getElem?_eq_some_iff.mp hi).1
      exact hno i a (by rw [List.length_map]; exact hil) hi b hb
end
end K15

set_option maxRecDepth 100000
set_option maxHeartbeats 8000000
namespace K15
open PySem PySem.Spec PyProof.Rows L2 Kw
/-! ### hues and depths: the mathematics -/
theorem elders_pre (bs : List (List Nat)) (i : Nat) : ∀ j, i ≤ j → (elders (bs.take j)).take i = elders (bs.take i) := by
  intro j
  induction j with
  | zero =>
    intro h
    obtain rfl : i = 0 := by omega
    rw [List.take_of_length_le (by rw [elders_len, List.length_take]; omega)]
  | succ j ih =>
    intro h
    by_cases e : i = j + 1
    · rw [← e, List.take_of_length_le (by rw [elders_len, List.length_take]; omega)]
    · by_cases q : j < bs.length
      · obtain ⟨row, hrow⟩ : ∃ row, bs[j]? = some row := ⟨_, List.getElem?_eq_getElem q⟩
        rw [elders_more hrow, List.take_append_of_le_length (by rw [elders_len, List.length_take]; omega)]
        exact ih (by omega)
      · rw [show bs.take (j + 1) = bs.take j by rw [List.take_of_length_le (by omega), List.take_of_length_le (by omega)]]
        exact ih (by omega)
theorem elders_pre_all (bs : List (List Nat)) (i : Nat) : (elders bs).take i = elders (bs.take i) := by
  by_cases h : i ≤ bs.length
  · have z := elders_pre bs i bs.length h
    rw [List.take_of_length_le (Nat.le_refl _)] at z
    exact z
  · rw [List.take_of_length_le (by rw [elders_len]; omega), List.take_of_length_le (by omega)]
theorem elders_row {bs : List (List Nat)} {c : Nat} {row : List Nat} (h : bs[c]? = some row) : (elders bs).getD c [] = elStep (elders (bs.take c)) row := by
  have hc := (List.getElem?_eq_some_iff.mp h).1
  have z : ((elders bs).take (c + 1))[c]? = (elders bs)[c]? := by
    rw [List.getElem?_take, if_pos (by omega)]
  rw [elders_pre_all, elders_more h, List.getElem?_append_right (by rw [elders_len, List.length_take]; omega), elders_len, List.length_take, show c - min c bs.length = 0 by omega] at z
  rw [List.getD_eq_getElem?_getD, ← z]
  rfl
theorem elders_getD_take {bs : List (List Nat)} {b c : Nat} (h : b < c) : (elders (bs.take c)).getD b [] = (elders bs).getD b [] := by
  rw [← elders_pre_all, List.getD_eq_getElem?_getD, List.getElem?_take, if_pos h, ← List.getD_eq_getElem?_getD]
theorem elders_mem {bs : List (List Nat)} (hv : validB bs) {c : Nat} {row : List Nat} (h : bs[c]? = some row) (x : Nat) : x ∈ (elders bs).getD c [] ↔ ∃ b ∈ row, x = b ∨ x ∈ (elders bs).getD b [] := by
  have hc := (List.getElem?_eq_some_iff.mp h).1
  rw [elders_row h, elStep_mem (fun b hb => by rw [elders_len, List.length_take]; have := hv c row h b hb; omega) (elders_lt _)]
  constructor
  · rintro ⟨b, hb, e⟩
    exact ⟨b, hb, e.imp id fun e => by rw [elders_getD_take (hv c row h b hb)] at e; exact e⟩
  · rintro ⟨b, hb, e⟩
    exact ⟨b, hb, e.imp id fun e => by rw [elders_getD_take (hv c row h b hb)]; exact e⟩
theorem elders_below {bs : List (List Nat)} {c x : Nat} (h : x ∈ (elders bs).getD c []) : x < c := by
  rw [List.getD_eq_getElem?_getD] at h
  cases e : (elders bs)[c]? with
  | none =>
    rw [e] at h
    cases h
  | some l =>
    rw [e] at h
    exact elders_lt bs c l e x h
theorem elders_trans {bs : List (List Nat)} (hv : validB bs) : ∀ (c : Nat) {x y : Nat}, y ∈ (elders bs).getD c [] → x ∈ (elders bs).getD y [] → x ∈ (elders bs).getD c [] := by
  intro c
  induction c using Nat.strongRecOn with
  | _ c ih =>
    intro x y hy hx
    have hc : c < bs.length := by
      apply Classical.byContradiction
      intro q
      rw [List.getD_eq_getElem?_getD, List.getElem?_eq_none (by rw [elders_len]; omega)] at hy
      cases hy
    obtain ⟨row, hrow⟩ : ∃ row, bs[c]? = some row := ⟨_, List.getElem?_eq_getElem hc⟩
    obtain ⟨b, hb, e⟩ := (elders_mem hv hrow y).mp hy
    refine (elders_mem hv hrow x).mpr ⟨b, hb, .inr ?_⟩
    rcases e with e | e
    · rw [← e]
      exact hx
    · exact ih b (hv c row hrow b hb) e hx
theorem nodup_sub_len' {ks ns : List Nat} (hn : ks.Nodup) (hs : ∀ k ∈ ks, k ∈ ns) : ks.length ≤ ns.length := by
  induction ks generalizing ns with
  | nil => exact Nat.zero_le _
  | cons k r ih =>
    have hk : k ∈ ns := hs k List.mem_cons_self
    obtain ⟨h1, h2⟩ := List.nodup_cons.mp hn
    have z := ih (ns := ns.erase k) h2 fun y hy => by
      have ne : y ≠ k := fun e => h1 (by rw [← e]; exact hy)
      exact (List.mem_erase_of_ne ne).mpr (hs y (List.mem_cons_of_mem _ hy))
    rw [List.length_erase_of_mem hk] at z
    have := List.length_pos_of_mem hk
    show r.length + 1 ≤ ns.length
    omega
/-- each row holds its own class last, the others below it, and the rows of all of them -/
structure KinsOk (ks : List (List Nat)) : Prop where
  up : ∀ c, c < ks.length → (ks.getD c []).Pairwise (· < ·)
  self : ∀ c, c < ks.length → c ∈ ks.getD c []
  le : ∀ c, c < ks.length → ∀ x ∈ ks.getD c [], x ≤ c
  tr : ∀ c, c < ks.length → ∀ y ∈ ks.getD c [], ∀ x ∈ ks.getD y [], x ∈ ks.getD c []
theorem kins_ok {bs : List (List Nat)} (hv : validB bs) : KinsOk (kins (elders bs)) := by
  have hl : ∀ {c}, c < (kins (elders bs)).length → c < bs.length := fun h => by
    rw [kins_len, elders_len] at h
    exact h
  have g : ∀ {c}, c < bs.length → (kins (elders bs)).getD c [] = (elders bs).getD c [] ++ [c] := fun h => kins_getD (by rw [elders_len]; exact h)
  refine ⟨fun c h => ?_, fun c h => ?_, fun c h x hx => ?_, fun c h y hy x hx => ?_⟩
  · rw [g (hl h)]
    exact (kin_up bs c (hl h)).1
  · rw [g (hl h)]
    exact List.mem_append_right _ (List.mem_singleton.mpr rfl)
  · rw [g (hl h)] at hx
    exact (kin_up bs c (hl h)).2 x hx
  · rw [g (hl h)] at hy ⊢
    have yc := (kin_up bs c (hl h)).2 y hy
    rw [g (by have := hl h; omega)] at hx
    rcases List.mem_append.mp hy with hy | hy
    · rcases List.mem_append.mp hx with hx | hx
      · exact List.mem_append_left _ (elders_trans hv c hy hx)
      · rw [List.mem_singleton.mp hx]
        exact List.mem_append_left _ hy
    · obtain rfl := List.mem_singleton.mp hy
      exact hx
/-- those of a row that have the hue of x -/
def likeH (hs : List (Option Nat)) (row : List Nat) (x : Nat) : List Nat := row.filter fun k => hueOf hs k == hueOf hs x
def depthI (ks : List (List Nat)) (hs : List (Option Nat)) (x : Nat) : Int := ((likeH hs (ks.getD x []) x).length : Int) - 1
def huedR (hs : List (Option Nat)) (row : List Nat) : List Nat := row.filter fun k => (hueOf hs k).isSome
def metOf (ks : List (List Nat)) (hs : List (Option Nat)) (k : Nat) : List Int := [(((hueOf hs k).getD 0 : Nat) : Int), depthI ks hs k]
def metR (ks : List (List Nat)) (hs : List (Option Nat)) (row : List Nat) : List (List Int) := (huedR hs row).map (metOf ks hs)
theorem mem_like {hs : List (Option Nat)} {row : List Nat} {x k : Nat} : k ∈ likeH hs row x ↔ k ∈ row ∧ hueOf hs k = hueOf hs x := by
  unfold likeH
  rw [List.mem_filter, beq_iff_eq]
theorem mem_hued {hs : List (Option Nat)} {row : List Nat} {k : Nat} : k ∈ huedR hs row ↔ k ∈ row ∧ (hueOf hs k).isSome = true := by
  unfold huedR
  rw [List.mem_filter]
theorem like_nodup {hs : List (Option Nat)} {row : List Nat} {x : Nat} (h : row.Pairwise (· < ·)) : (likeH hs row x).Nodup := up_nodup (List.Pairwise.filter _ h)
theorem met_inj {ks : List (List Nat)} {hs : List (Option Nat)} {a b : Nat} (ha : (hueOf hs a).isSome = true) (hb : (hueOf hs b).isSome = true) (h : metOf ks hs a = metOf ks hs b) : hueOf hs a = hueOf hs b ∧ depthI ks hs a = depthI ks hs b := by
  unfold metOf at h
  injection h with h1 h2
  injection h2 with h2 _
  refine ⟨?_, h2⟩
  cases ea : hueOf hs a with
  | none =>
    rw [ea] at ha
    cases ha
  | some x =>
    cases eb : hueOf hs b with
    | none =>
      rw [eb] at hb
      cases hb
    | some y =>
      rw [ea, eb] at h1
      have : x = y := by
        have h1 : (x : Int) = (y : Int) := h1
        omega
      rw [this]
/-- below in the same row and of the same hue: less deep -/
theorem depth_lt {ks : List (List Nat)} (ok : KinsOk ks) {hs : List (Option Nat)} {a b : Nat} (hb : b < ks.length) (hab : a ∈ ks.getD b []) (ne : a ≠ b) (he : hueOf hs a = hueOf hs b) : depthI ks hs a < depthI ks hs b := by
  have alt : a < b := by
    have := ok.le b hb a hab
    omega
  have z := nodup_sub_len' (ks := b :: likeH hs (ks.getD a []) a) (ns := likeH hs (ks.getD b []) b) (List.nodup_cons.mpr ⟨fun h => ?_, like_nodup (ok.up a (by omega))⟩) (fun k hk => ?_)
  · unfold depthI
    rw [List.length_cons] at z
    omega
  · have := ok.le a (by omega) b (mem_like.mp h).1
    omega
  · rcases List.mem_cons.mp hk with rfl | hk
    · exact mem_like.mpr ⟨ok.self _ hb, rfl⟩
    · obtain ⟨h1, h2⟩ := mem_like.mp hk
      exact mem_like.mpr ⟨ok.tr b hb a hab k h1, h2.trans he⟩
theorem nodup_map {α β : Type} {f : α → β} : ∀ {l : List α}, l.Nodup → (∀ a ∈ l, ∀ b ∈ l, f a = f b → a = b) → (l.map f).Nodup
  | [], _, _ => List.nodup_nil
  | x :: r, hn, hi => by
    obtain ⟨h1, h2⟩ := List.nodup_cons.mp hn
    refine List.nodup_cons.mpr ⟨fun h => ?_, nodup_map h2 fun a ha b hb => hi a (List.mem_cons_of_mem _ ha) b (List.mem_cons_of_mem _ hb)⟩
    obtain ⟨y, hy, e⟩ := List.mem_map.mp h
    have := hi y (List.mem_cons_of_mem _ hy) x List.mem_cons_self e
    rw [this] at hy
    exact h1 hy
theorem inj_of_nodup_map {α β : Type} {f : α → β} : ∀ {l : List α}, (l.map f).Nodup → ∀ a ∈ l, ∀ b ∈ l, f a = f b → a = b
  | [], _, a, ha, _, _, _ => by cases ha
  | x :: r, hn, a, ha, b, hb, e => by
    obtain ⟨h1, h2⟩ := List.nodup_cons.mp hn
    rcases List.mem_cons.mp ha with ea | ha'
    · rcases List.mem_cons.mp hb with eb | hb'
      · rw [ea, eb]
      · rw [ea] at e
        exact absurd (e ▸ List.mem_map_of_mem hb') h1
    · rcases List.mem_cons.mp hb with eb | hb'
      · rw [eb] at e
        exact absurd (e ▸ List.mem_map_of_mem ha') h1
      · exact inj_of_nodup_map h2 a ha' b hb' e
theorem condL_iff {ks : List (List Nat)} {hs : List (Option Nat)} {a b : Nat} : condL ks hs a b = true ↔ a < b ∧ (hueOf hs a).isSome = true ∧ hueOf hs a = hueOf hs b ∧ a ∉ ks.getD b [] := by
  unfold condL
  rw [Bool.and_eq_true, Bool.and_eq_true, Bool.and_eq_true, decide_eq_true_eq, beq_iff_eq, Bool.not_eq_true', ← Bool.not_eq_true, List.contains_iff_mem]
/-- unlike depths: where u is not below v it is no less deep -/
theorem depth_ge {ks : List (List Nat)} (ok : KinsOk ks) {hs : List (Option Nat)} {c : Nat} (hc : c < ks.length) (hn : (metR ks hs (ks.getD c [])).Nodup) {u v : Nat} (hu : u ∈ ks.getD c []) (hv : v ∈ ks.getD c []) (hs1 : (hueOf hs u).isSome = true) (he : hueOf hs u = hueOf hs v) (hno : u ∉ ks.getD v []) : ¬ depthI ks hs u < depthI ks hs v := by
  intro hlt
  have vc := ok.le c hc v hv
  have inj : ∀ x ∈ likeH hs (ks.getD c []) v, ∀ y ∈ likeH hs (ks.getD c []) v, depthI ks hs x = depthI ks hs y → x = y := fun x hx y hy e => by
    obtain ⟨x1, x2⟩ := mem_like.mp hx
    obtain ⟨y1, y2⟩ := mem_like.mp hy
    have hxs : (hueOf hs x).isSome = true := by rw [x2, ← he]; exact hs1
    have hys : (hueOf hs y).isSome = true := by rw [y2, ← he]; exact hs1
    refine inj_of_nodup_map hn x (mem_hued.mpr ⟨x1, hxs⟩) y (mem_hued.mpr ⟨y1, hys⟩) ?_
    unfold metOf
    rw [x2, y2, e]
  -- the less deep ones of this row
  let T := (likeH hs (ks.getD c []) v).filter fun x => decide (depthI ks hs x < depthI ks hs v)
  have memT : ∀ x, x ∈ T ↔ (x ∈ ks.getD c [] ∧ hueOf hs x = hueOf hs v) ∧ depthI ks hs x < depthI ks hs v := fun x => by
    show x ∈ List.filter _ _ ↔ _
    rw [List.mem_filter, mem_like, decide_eq_true_eq]
  have d0 : ∀ x, x ∈ ks.getD c [] → 0 ≤ depthI ks hs x := fun x hx => by
    have xc := ok.le c hc x hx
    have : 0 < (likeH hs (ks.getD x []) x).length := List.length_pos_of_mem (mem_like.mpr ⟨ok.self x (by omega), rfl⟩)
    unfold depthI
    omega
  have nT : T.Nodup := List.Pairwise.filter _ (like_nodup (ok.up c hc))
  have small : T.length ≤ (depthI ks hs v).toNat := by
    have z := nodup_sub_len' (ks := T.map fun x => (depthI ks hs x).toNat) (ns := List.range (depthI ks hs v).toNat) (nodup_map nT fun x hx y hy e => ?_) (fun k hk => ?_)
    · rw [List.length_map, List.length_range] at z
      exact z
    · obtain ⟨⟨x1, x2⟩, _⟩ := (memT x).mp hx
      obtain ⟨⟨y1, y2⟩, _⟩ := (memT y).mp hy
      have q1 := d0 x x1
      have q2 := d0 y y1
      exact inj x (mem_like.mpr ⟨x1, x2⟩) y (mem_like.mpr ⟨y1, y2⟩) (by have e : (depthI ks hs x).toNat = (depthI ks hs y).toNat := e; omega)
    · obtain ⟨x, hx, rfl⟩ := List.mem_map.mp hk
      obtain ⟨⟨x1, _⟩, x3⟩ := (memT x).mp hx
      have q1 := d0 x x1
      rw [List.mem_range]
      omega
  have lv : (likeH hs (ks.getD v []) v).Nodup := like_nodup (ok.up v (by omega))
  have vin : v ∈ likeH hs (ks.getD v []) v := mem_like.mpr ⟨ok.self v (by omega), rfl⟩
  have big := nodup_sub_len' (ks := u :: (likeH hs (ks.getD v []) v).erase v) (ns := T) (List.nodup_cons.mpr ⟨fun h => hno (mem_like.mp (List.mem_of_mem_erase h)).1, lv.erase v⟩) (fun k hk => ?_)
  · rw [List.length_cons, List.length_erase_of_mem vin] at big
    have := List.length_pos_of_mem vin
    unfold depthI at small
    omega
  · rcases List.mem_cons.mp hk with rfl | hk
    · exact (memT _).mpr ⟨⟨hu, he⟩, hlt⟩
    · obtain ⟨ne, hk⟩ := (lv.mem_erase_iff).mp hk
      obtain ⟨k1, k2⟩ := mem_like.mp hk
      exact (memT k).mpr ⟨⟨ok.tr c hc v hv k k1, k2⟩, depth_lt ok (by omega) k1 ne k2⟩
/-- no clash exactly if no row has two of one hue at one depth -/
theorem clash_iff {ks : List (List Nat)} (ok : KinsOk ks) (hs : List (Option Nat)) (c : Nat) (hc : c < ks.length) : (∀ a ∈ ks.getD c [], ∀ b ∈ ks.getD c [], condL ks hs a b = false) ↔ (metR ks hs (ks.getD c [])).Nodup := by
  constructor
  · intro h
    have main : ∀ a b, a ∈ ks.getD c [] → b ∈ ks.getD c [] → (hueOf hs a).isSome = true → (hueOf hs b).isSome = true → metOf ks hs a = metOf ks hs b → ¬ a < b := fun a b ha hb sa sb e lt => by
      obtain ⟨e1, e2⟩ := met_inj sa sb e
      have bc := ok.le c hc b hb
      have inb : a ∈ ks.getD b [] := by
        apply Classical.byContradiction
        intro q
        have z := h a ha b hb
        rw [condL_iff.mpr ⟨lt, sa, e1, q⟩] at z
        cases z
      have := depth_lt ok (by omega) inb (by omega) e1
      omega
    refine nodup_map (up_nodup (List.Pairwise.filter _ (ok.up c hc))) fun a ha b hb e => ?_
    obtain ⟨a1, a2⟩ := mem_hued.mp ha
    obtain ⟨b1, b2⟩ := mem_hued.mp hb
    have z1 := main a b a1 b1 a2 b2 e
    have z2 := main b a b1 a1 b2 a2 e.symm
    omega
  · intro h a ha b hb
    apply Classical.byContradiction
    intro q
    have q : condL ks hs a b = true := by
      cases e : condL ks hs a b with
      | false => exact absurd e q
      | true => rfl
    obtain ⟨lt, sa, e, no⟩ := condL_iff.mp q
    have bc := ok.le c hc b hb
    have n1 := depth_ge ok hc h ha hb sa e no
    have n2 := depth_ge ok hc h hb ha (by rw [← e]; exact sa) e.symm (fun z => by have := ok.le a (by omega) b z; omega)
    have : metOf ks hs a = metOf ks hs b := by
      unfold metOf
      rw [e, show depthI ks hs a = depthI ks hs b by omega]
    have := inj_of_nodup_map h a (mem_hued.mpr ⟨ha, sa⟩) b (mem_hued.mpr ⟨hb, by rw [← e]; exact sa⟩) this
    omega
/-- the first clash of all rows -/
def FirstC (ks : List (List Nat)) (hs : List (Option Nat)) (o : Option (List Nat)) : Prop :=
  (o = none ∧ ∀ c < ks.length, Least (condL ks hs) (ks.getD c []) none) ∨ ∃ c a b, o = some [c, a, b] ∧ c < ks.length ∧ (∀ c' < c, Least (condL ks hs) (ks.getD c' []) none) ∧ Least (condL ks hs) (ks.getD c []) (some [a, b])
theorem FirstC.one {ks : List (List Nat)} {hs : List (Option Nat)} {o o' : Option (List Nat)} (h : FirstC ks hs o) (h' : FirstC ks hs o') : o = o' := by
  rcases h with ⟨rfl, h⟩ | ⟨c, a, b, rfl, h1, h2, h3⟩
  · rcases h' with ⟨rfl, _⟩ | ⟨c, a, b, rfl, h1, h2, h3⟩
    · rfl
    · cases (h c h1).one h3
  · rcases h' with ⟨rfl, h⟩ | ⟨c', a', b', rfl, h1', h2', h3'⟩
    · cases (h c h1).one h3
    · have e : c = c' := by
        apply Classical.byContradiction
        intro q
        by_cases l : c < c'
        · cases (h2' c l).one h3
        · cases (h2 c' (by omega)).one h3'
      subst e
      have z := h3.one h3'
      injection z with z
      rw [z]
theorem FirstC.none_iff {ks : List (List Nat)} (ok : KinsOk ks) {hs : List (Option Nat)} {o : Option (List Nat)} (h : FirstC ks hs o) : o = none ↔ ∀ row ∈ ks, (metR ks hs row).Nodup := by
  have none_of : ∀ c, Least (condL ks hs) (ks.getD c []) none ↔ ∀ a ∈ ks.getD c [], ∀ b ∈ ks.getD c [], condL ks hs a b = false := fun c => by
    constructor
    · rintro (⟨_, h⟩ | ⟨a, b, h, _⟩)
      · exact h
      · cases h
    · intro h
      exact .inl ⟨rfl, h⟩
  constructor
  · rintro rfl row hr
    obtain ⟨c, hc⟩ := List.mem_iff_getElem?.mp hr
    have hl := (List.getElem?_eq_some_iff.mp hc).1
    have e : ks.getD c [] = row := by
      rw [List.getD_eq_getElem?_getD, hc]
      rfl
    rcases h with ⟨_, h⟩ | ⟨_, _, _, z, _⟩
    · have z := (clash_iff ok hs c hl).mp ((none_of c).mp (h c hl))
      rw [e] at z
      exact z
    · cases z
  · intro hm
    rcases h with ⟨rfl, _⟩ | ⟨c, a, b, rfl, h1, h2, h3⟩
    · rfl
    · have e : ks.getD c [] ∈ ks := by
        rw [List.getD_eq_getElem?_getD, List.getElem?_eq_getElem h1]
        exact List.getElem_mem h1
      have z := (none_of c).mpr ((clash_iff ok hs c h1).mpr (hm _ e))
      cases z.one h3
end K15

set_option maxRecDepth 100000
set_option maxHeartbeats 8000000
namespace K15
open PySem PySem.Spec PyProof.Rows L2 Kw
/-- a class of one's own, by the fields it keeps -/
structure ClsF (K : PySem.W.Frag) (C : Addr) (fs : List Str) : Prop where
  cl : Cls K C
  no : ∀ f ∈ fs, NoAttr K C f
def ClashAt (H : Hp) (p Cc : Addr) (l : List Nat) : Prop := ∃ dx c a b, l = [c, a, b] ∧ H p = some (.ins Cc dx [("cls", natV c), ("first", natV a), ("second", natV b)])
def OptClash (H : Hp) (Cc : Addr) (v : V) (o : Option (List Nat)) : Prop := (o = none ∧ v = .non) ∨ ∃ l p, o = some l ∧ v = .ref p ∧ ClashAt H p Cc l
theorem cut_tail (xs : List V) (i : Nat) (h : i < xs.length) : ¬ (HT.sIx xs.length 0 (some ((i : Int) + 1)) = 0 ∧ HT.sIx xs.length xs.length none = xs.length) ∧ cutV xs (some ((i : Int) + 1)) none = xs.drop (i + 1) := by
  have e : ((i : Int) + 1) = ((i + 1 : Nat) : Int) := by omega
  rw [e]
  constructor
  · rw [HT.sIx_nat]
    omega
  · unfold cutV
    rw [HT.sIx_nat, HT.sIx_none, Nat.min_eq_left (by omega), List.take_of_length_le (by rw [List.length_drop]; exact Nat.le_refl _)]
theorem kins_els {ds : List Ent} {x : Nat} (h : x < ds.length) : (kins (elsOf ds)).getD x [] = (elsOf ds).getD x [] ++ [x] := kins_getD (by rw [elsOf_len]; exact h)
/-- behind one's own place: on one line means below -/
theorem line_kin {ds : List Ent} {a b : Nat} (hab : a < b) (hb : b < ds.length) : onLine (elsOf ds) a b = ((kins (elsOf ds)).getD b []).contains a := by
  rw [kins_els hb]
  unfold onLine
  have e1 : decide (a = b) = false := decide_eq_false (by omega)
  have e2 : ((elsOf ds).getD a []).contains b = false := by
    cases e : ((elsOf ds).getD a []).contains b with
    | false => rfl
    | true =>
      have := elders_below (List.contains_iff_mem.mp e)
      omega
  rw [e1, e2, Bool.false_or, Bool.or_false, Bool.eq_iff_iff, List.contains_iff_mem, List.contains_iff_mem, List.mem_append, List.mem_singleton]
  exact ⟨.inl, fun h => h.resolve_right (by omega)⟩
section
variable {P : Program} {w : World} {K : PySem.W.Frag} {mg : Str → Option Value} {base : Heap} {f fS fW fN fC fL fI fU fH fA C Cn Cc : Addr} {fd fdS fdW fdN fdC fdL fdI fdU fdH fdA : FuncData}
/-! ### is_hue -/
def spIsHue : Sp := fun vs H Q _ => ∃ o : Option Nat, vs = [hV o] ∧ (∀ h, o = some h → h < 8) ∧ Q (.bl true) H
theorem sc_isHue : FnScope ["thing"] ["thing"] (defScope (top 21)) := ⟨rfl, rfl, rfl, by decide +kernel, rfl, by decide +kernel, by decide +kernel⟩
theorem ok_isHue (F : FnP K "is_hue" 21 f fd) (B : Fr mg) (z7 : ∃ t, mg "MOST_HUE" = some (.int 7 t)) (FW : FnDf K "is_whole" 11 [.non, .non] fW fdW) (mW : mg "is_whole" = some (.ref fW)) : FnOk P w K mg base CX0 2 f fd ["thing"] spIsHue := by
  have GW : FnOk P w K mg base CX0 1 fW fdW ["thing", "low", "high"] spWhole := ok_whole FW B
  have bW := binds_whole3 FW
  obtain ⟨t7, z7⟩ := z7
  refine F.ok sc_isHue (fun vs H Q E h => ?_) (fun cdv A outer s H vs Q E hr h => ?_)
  · obtain ⟨o, rfl, _⟩ := h
    rfl
  · obtain ⟨o, rfl, ho, k⟩ := h
    refine ⟨_, PSs.nox (pss_one (ps_ret (pe_or (pe_cmpR op_isN (pv 0) pe_non (nomark _)) (pe_one (pe_call GW hr (by rfl) mW FW.kp bW .nil pass0 (pa_cons (pv 0) (pa_cons pe_int (pa_cons (pe_glob (v := .int 7) (by rfl) z7 ⟨_, rfl⟩) pa_nil)))))))), ?_⟩
    refine ⟨_, rfl, rfl, _, rfl, ?_⟩
    cases o with
    | none => exact iteT' rfl k
    | some h =>
      have e : wholeB (.int 0) (.int 7) (natV h) = true := whole_of (n := 8) (ho h rfl)
      refine iteF' rfl ⟨_, rfl, natV h, .int 0, .int 7, "int", rfl, .int _, .inr ⟨_, rfl⟩, .inr ⟨_, rfl⟩, ?_⟩
      rw [e]
      exact k
/-! ### check_hues -/
def spCheckHues (C : Addr) : Sp := fun vs H Q _ => ∃ (p a : Addr) (ds : List Ent) (hs : List (Option Nat)), vs = [.ref p, .ref a] ∧ WorldAt H p C ds ∧ SeqAt H a (hs.map hV) ∧ hs.length = ds.length ∧ hs.length ≤ 12 ∧ (∀ o ∈ hs, ∀ h, o = some h → h < 8) ∧
  ∀ t H', Same H H' → H' t = some (.tup (hs.map hV)) → Q (.ref t) H'
theorem sc_checkHues : FnScope ["world", "hues", "index", "hue"] ["world", "hues"] (defScope (top 22)) := ⟨rfl, rfl, rfl, by decide +kernel, rfl, by decide +kernel, by decide +kernel⟩
theorem ok_checkHues (F : FnP K "check_hues" 22 f fd) (B : Fr mg) (TC : ClsWorld K mg C) (z7 : ∃ t, mg "MOST_HUE" = some (.int 7 t)) (FW : FnDf K "is_whole" 11 [.non, .non] fW fdW) (mW : mg "is_whole" = some (.ref fW)) (FS : FnP K "is_sequence" 10 fS fdS) (mS : mg "is_sequence" = some (.ref fS)) (FU : FnP K "is_hue" 21 fU fdU) (mU : mg "is_hue" = some (.ref fU)) :
    FnOk P w K mg base CX0 3 f fd ["world", "hues"] (spCheckHues C) := by
  have GS : FnOk P w K mg base CX0 1 fS fdS ["thing"] spIsSeq := ok_isSeq FS B
  have bS : L2.Binds K fdS ["thing"] [] := FS.bindsN fun _ _ _ _ _ _ us hl => match us, hl with | [_], _ => rfl
  have GU : FnOk P w K mg base CX0 2 fU fdU ["thing"] spIsHue := ok_isHue FU B z7 FW mW
  have bU : L2.Binds K fdU ["thing"] [] := FU.bindsN fun _ _ _ _ _ _ us hl => match us, hl with | [_], _ => rfl
  refine F.ok sc_checkHues (fun vs H Q E h => ?_) (fun cdv A outer s H vs Q E hr h => ?_)
  · obtain ⟨p, a, ds, hs, rfl, _⟩ := h
    rfl
  · obtain ⟨p, a, ds, hs, rfl, hw, hA, hl, h12, h8, k⟩ := h
    refine ⟨_, PSs.nox (pss_cons (ps_if (PW.pt (pw_or (pt_not (pt_val (pe_call GS (hr.mono (by decide)) (by rfl) mS FS.kp bS .nil pass0 (pa_cons (pv 1) pa_nil)))) (pw_or1 (pt_cmpR op_ne (pe_callB call_len_seq (by rfl) B.len PySem.boot_len (pa_cons (pv 1) pa_nil)) (pe_callB call_len_seq (by rfl) B.len PySem.boot_len (pa_cons (pe_fld (pv 0) rfl) pa_nil)) (nomark _)))))
        (pss_one ps_never) pss_nil)
      (pss_cons (ps_for PassesOwn.never rfl (pi_or (pi_enum (by rfl) B.enumerate (pa_cons (pv 1) pa_nil)) (pi_enumT (by rfl) B.enumerate (pa_cons (pv 1) pa_nil))) (pg_tup (by rfl) (pgs_cons (pg_name (i := 2) sc_checkHues.nd rfl (Or.inl rfl)) (pgs_cons (pg_name (i := 3) sc_checkHues.nd rfl (Or.inl rfl)) pgs_nil)))
        (pss_one (ps_if (pt_not (pt_val (pe_call GU hr (by rfl) mU FU.kp bU .nil pass0 (pa_cons (pv 3) pa_nil)))) (pss_one ps_never) pss_nil)))
      (pss_one (ps_ret (pe_callTy (T := "tuple") (r := rTupOf K) (call_tup (X := _)) (by rfl) B.tuple (by decide +kernel) (pa_cons (pv 1) pa_nil)))))), ?_⟩
    obtain ⟨ty, tyA, hseq⟩ := hA.ty
    refine ⟨_, rfl, _, ty, rfl, tyA, fun H1 s1 => ⟨_, rfl, ?_⟩⟩
    rw [hseq]
    have hw1 := hw.mono s1
    have hA1 := hA.same s1
    obtain ⟨dx, ac, ab, ao, am, ae, ah, cs, bs, ms, es, hs', h1, h2, h3, _⟩ := hw1
    refine iteF ⟨_, rfl, a, _, rfl, hA1.sq, _, rfl, p, C, dx, _, _, rfl, h1, TC.cl, TC.no _ (List.mem_of_getElem? (i := 0) rfl), rfl, ac, cs, rfl, .inr (SqT.of h2), rfl, _, rfl, ?_⟩
    rw [h3.len, List.length_map, hl]
    refine iteF' (by simp) ?_
    refine for_enumS (K := K) (a := a) (xs := hs.map hV) rfl hA s1 (fun i σ H' => Same H H' ∧ ∃ x2 x3, σ = [some (.ref p), some (.ref a), x2, x3]) ⟨s1, _, _, rfl⟩ (fun i σ H' h => h.1) ?_ ?_
    · rintro i e σ H' T hi ⟨sH, x2, x3, rfl⟩ hT
      rw [List.getElem?_map] at hi
      obtain ⟨o, ho, rfl⟩ := Option.map_eq_some_iff.mp hi
      refine ⟨T, _, rfl, SqT.of upd_same, rfl, _, _, rfl, _, _, rfl, rfl, ?_⟩
      refine ⟨_, rfl, o, rfl, h8 o (List.mem_of_getElem? ho), _, rfl, iteF' rfl ⟨sH.trans (same_new hT), _, _, rfl⟩⟩
    · rintro σ H' ⟨sH, x2, x3, rfl⟩
      refine ⟨_, rfl, ?_⟩
      exact tup_q (hA.same sH) fun t H2 s2 ht => k t H2 (sH.trans s2) ht
/-! ### Clash -/
def spClashI (Cc : Addr) : Sp := fun vs H Q _ => ∃ (p dx : Addr) (x y z : V), vs = [.ref p, x, y, z] ∧ H p = some (.ins Cc dx []) ∧ ∀ H', Oth p H H' → H' p = some (.ins Cc dx [("cls", x), ("first", y), ("second", z)]) → Q .non H'
theorem sc_clashI : FnScope ["self", "cls", "first", "second"] ["self", "cls", "first", "second"] (defScope (inClass (top 18) 0)) := ⟨rfl, rfl, rfl, by decide +kernel, rfl, by decide +kernel, by decide +kernel⟩
theorem ok_clashI (F : FnM K "__init__" "Clash.__init__" (inClass (top 18) 0) f fd) (T : ClsF K Cc ["cls", "first", "second"]) : FnOk P w K mg base CX0 1 f fd ["self", "cls", "first", "second"] (spClashI Cc) ∧ Binds K fd ["self", "cls", "first", "second"] [] := by
  refine ⟨F.ok sc_clashI (fun vs H Q E h => ?_) (fun cdv A outer s H vs Q E hr h => ?_), F.bindsN fun _ _ _ _ _ _ us hl => match us, hl with | [_, _, _, _], _ => rfl⟩
  · obtain ⟨p, dx, x, y, z, rfl, _⟩ := h
    rfl
  · obtain ⟨p, dx, x, y, z, rfl, hp, k⟩ := h
    refine ⟨_, PSs.nox (pss_cons (ps_fld (pv 0) (pv 1) rfl) (pss_cons (ps_fld (pv 0) (pv 2) rfl) (pss_one (ps_fld (pv 0) (pv 3) rfl)))), ?_⟩
    refine ⟨_, rfl, _, rfl, p, Cc, dx, [], rfl, hp, T.cl, T.no _ (List.mem_of_getElem? (i := 0) rfl), by simp, ?_⟩
    refine ⟨_, rfl, _, rfl, p, Cc, dx, _, rfl, upd_same, T.cl, T.no _ (List.mem_of_getElem? (i := 1) rfl), (by show 1 < _; decide), ?_⟩
    refine ⟨_, rfl, _, rfl, p, Cc, dx, _, rfl, upd_same, T.cl, T.no _ (List.mem_of_getElem? (i := 2) rfl), (by show 2 < _; decide), ?_⟩
    exact k _ (Oth.upd (Oth.upd (Oth.upd (Oth.of (Same.refl H))))) upd_same
end
end K15

set_option maxRecDepth 100000
set_option maxHeartbeats 8000000
namespace K15
open PySem PySem.Spec PyProof.Rows L2 Kw
section
variable {P : Program} {w : World} {K : PySem.W.Frag} {mg : Str → Option Value} {base : Heap} {f fS fW fN fC fL fI fU fH fA C Cn Cc : Addr} {fd fdS fdW fdN fdC fdL fdI fdU fdH fdA : FuncData}
def spClashAm (C Cc : Addr) : Sp := fun vs H Q _ => ∃ (p r am : Addr) (c : Nat) (ds : List Ent) (hs : List (Option Nat)) (xs : List Nat), vs = [.ref p, .ref r, natV c, .ref am] ∧ WorldAt H p C ds ∧ H r = some (.tup (hs.map hV)) ∧ H am = some (.tup (xs.map natV)) ∧ xs.Pairwise (· < ·) ∧ (∀ x ∈ xs, x < ds.length ∧ x < hs.length) ∧ xs.length ≤ 12 ∧
  ∀ v H' o, Same H H' → Least (condL (kins (elsOf ds)) hs) xs o → OptClash H' Cc v (o.map (c :: ·)) → Q v H'
theorem sc_clashAm : FnScope ["world", "hues", "c", "among", "k", "first", "second"] ["world", "hues", "c", "among"] (defScope (top 24)) := ⟨rfl, rfl, rfl, by decide +kernel, rfl, by decide +kernel, by decide +kernel⟩
theorem ok_clashAm (F : FnP K "clash_among" 24 f fd) (B : Fr mg) (TC : ClsWorld K mg C) (FL : FnP K "on_line" 15 fL fdL) (mL : mg "on_line" = some (.ref fL)) (FC : FnP K "check_class" 14 fC fdC) (mC : mg "check_class" = some (.ref fC)) (FW : FnDf K "is_whole" 11 [.non, .non] fW fdW) (mW : mg "is_whole" = some (.ref fW)) (FN : FnM K "__init__" "NoClass.__init__" (inClass (top 4) 0) fN fdN) (TN : ErrX K mg "NoClass" ["cls"] Cn fN)
    (FI : FnM K "__init__" "Clash.__init__" (inClass (top 18) 0) fI fdI) (TI : ClsF K Cc ["cls", "first", "second"]) (MI : Mk K Cc fI) (mI : mg "Clash" = some (.ref Cc)) :
    FnOk P w K mg base (L2.CX P w) 5 f fd ["world", "hues", "c", "among"] (spClashAm C Cc) := by
  have GL : FnOk P w K mg base (L2.CX P w) 4 fL fdL ["world", "a", "b"] (spOnLine C Cn) := ok_onLine FL B TC FC mC FW mW FN TN
  have bL : L2.Binds K fdL ["world", "a", "b"] [] := FL.bindsN fun _ _ _ _ _ _ us hl => match us, hl with | [_, _, _], _ => rfl
  obtain ⟨GI, bI⟩ : FnOk P w K mg base CX0 1 fI fdI ["self", "cls", "first", "second"] (spClashI Cc) ∧ Binds K fdI ["self", "cls", "first", "second"] [] := ok_clashI FI TI
  refine F.ok sc_clashAm (fun vs H Q E h => ?_) (fun cdv A outer s H vs Q E hr h => ?_)
  · obtain ⟨p, r, am, c, ds, hs, xs, rfl, _⟩ := h
    rfl
  · obtain ⟨p, r, am, c, ds, hs, xs, rfl, hw, hR, hM, up, hx, h12, k⟩ := h
    refine ⟨_, (pss_cons (ps_for (passes_of rfl) rfl (pi_enumT (by rfl) B.enumerate (pa_cons (pv 3) pa_nil)) (pg_tup (by rfl) (pgs_cons (pg_name (i := 4) sc_clashAm.nd rfl (Or.inl rfl)) (pgs_cons (pg_name (i := 5) sc_clashAm.nd rfl (Or.inl rfl)) pgs_nil)))
        (pss_one (ps_for (passes_of rfl) rfl (pi_tup (pe_slice sl_tup (pv 3) (po_some (pe_op op_add (pv 4) pe_int)) po_none)) (pg_name (i := 6) sc_clashAm.nd rfl (Or.inl rfl))
          (pss_one (ps_if (PW.pt (pw_and (pt_cmpR op_notN (pe_ix (r := rIxT K) ix_tup (pv 1) (pv 5) (fun _ _ => rfl)) pe_non (nomark _))
              (pw_and (pt_cmpR op_eq (pe_ix (r := rIxT K) ix_tup (pv 1) (pv 5) (fun _ _ => rfl)) (pe_ix (r := rIxT K) ix_tup (pv 1) (pv 6) (fun _ _ => rfl)) (nomark _))
                (pw_and1 (pt_not (pt_val (pe_callS GL hr (by rfl) mL FL.kp bL (fun σ => passAt (takes_of rfl rfl rfl rfl) σ) (pa_cons (pv 0) (pa_cons (pv 5) (pa_cons (pv 6) pa_nil))))))))))
            (pss_one (ps_ret (pe_make MI GI (hr.mono (by decide)) (by rfl) mI bI .nil pass0 (pa_cons (pv 2) (pa_cons (pv 5) (pa_cons (pv 6) pa_nil)))))) pss_nil)))))
      (pss_one (ps_ret pe_non))), ?_⟩
    refine ⟨_, rfl, am, _, rfl, SqT.of hM, for_enumT (K := K) (a := am) (xs := xs.map natV) (fun i σ H' => Same H H' ∧ (∃ x4 x5 x6, σ = [some (.ref p), some (.ref r), some (natV c), some (.ref am), x4, x5, x6]) ∧ ∀ i' a, i' < i → xs[i']? = some a → ∀ b ∈ xs, condL (kins (elsOf ds)) hs a b = false)
      ⟨Same.refl H, ⟨_, _, _, rfl⟩, fun i' a z => absurd z (Nat.not_lt_zero _)⟩ (fun i σ H' _ h => SqT.of (h.1 _ _ hM)) ?_ ?_⟩
    · rintro i y σ H' T hi ⟨sH, ⟨x4, x5, x6, rfl⟩, hno⟩ hT
      rw [List.getElem?_map] at hi
      obtain ⟨a, ha, rfl⟩ := Option.map_eq_some_iff.mp hi
      obtain ⟨ad, ah⟩ := hx a (List.mem_of_getElem? ha)
      have hil := (List.getElem?_eq_some_iff.mp ha).1
      refine ⟨T, _, rfl, SqT.of upd_same, rfl, _, _, rfl, _, _, rfl, rfl, ?_⟩
      have sT := sH.trans (same_new (o := .tup [.int (i : Nat), natV a]) hT)
      generalize hG : upd H' T (.tup [.int (i : Nat), natV a]) = G at sT ⊢
      obtain ⟨c1, c2⟩ := cut_tail (xs.map natV) i (by rw [List.length_map]; exact hil)
      refine ⟨_, rfl, _, rfl, _, _, rfl, rfl, _, rfl, am, xs.map natV, rfl, SqT.of (sT _ _ hM), c1, fun S hS => ?_⟩
      rw [c2, ← List.map_drop]
      have sS := sT.trans (same_new (o := .tup ((xs.drop (i + 1)).map natV)) hS)
      have hSS : upd G S (.tup ((xs.drop (i + 1)).map natV)) S = some (.tup ((xs.drop (i + 1)).map natV)) := upd_same
      generalize hG2 : upd G S (.tup ((xs.drop (i + 1)).map natV)) = G2 at sS hSS ⊢
      refine ⟨S, rfl, ⟨_, SqT.of hSS⟩, for_tup (K := K) (a := S) (xs := (xs.drop (i + 1)).map natV) (fun j σ H' => Same H H' ∧ Same G2 H' ∧ (∃ x6, σ = [some (.ref p), some (.ref r), some (natV c), some (.ref am), some (.int (i : Nat)), some (natV a), x6]) ∧ ∀ j' b, j' < j → (xs.drop (i + 1))[j']? = some b → condL (kins (elsOf ds)) hs a b = false)
        ⟨sS, Same.refl _, ⟨_, rfl⟩, fun i' a z => absurd z (Nat.not_lt_zero _)⟩ (fun i σ H' _ h => SqT.of (h.2.1 _ _ hSS)) ?_ ?_⟩
      · rintro j y σ H2 hj ⟨s2, t2, ⟨x6, rfl⟩, hno2⟩
        rw [List.getElem?_map] at hj
        obtain ⟨b, hb, rfl⟩ := Option.map_eq_some_iff.mp hj
        have hbx : xs[i + 1 + j]? = some b := by
          rw [List.getElem?_drop] at hb
          exact hb
        obtain ⟨bd, bh⟩ := hx b (List.mem_of_getElem? hbx)
        have order : ∀ {m n x y : Nat}, xs[m]? = some x → xs[n]? = some y → m < n → x < y := fun hm hn l => by
          obtain ⟨m1, e1⟩ := List.getElem?_eq_some_iff.mp hm
          obtain ⟨n1, e2⟩ := List.getElem?_eq_some_iff.mp hn
          rw [← e1, ← e2]
          exact List.pairwise_iff_getElem.mp up _ _ m1 n1 l
        have ab : a < b := order ha hbx (by omega)
        have next : condL (kins (elsOf ds)) hs a b = false → ∀ H3, Same H2 H3 → Same H H3 ∧ Same G2 H3 ∧ (∃ x6, ([some (.ref p), some (.ref r), some (natV c), some (.ref am), some (.int (i : Nat)), some (natV a), some (natV b)] : L2.St) = [some (.ref p), some (.ref r), some (natV c), some (.ref am), some (.int (i : Nat)), some (natV a), x6]) ∧ ∀ j' b, j' < j + 1 → (xs.drop (i + 1))[j']? = some b → condL (kins (elsOf ds)) hs a b = false := fun e H3 s3 => by
          refine ⟨s2.trans s3, t2.trans s3, ⟨_, rfl⟩, fun j' b' hj' hb' => ?_⟩
          by_cases z : j' = j
          · rw [z, hb] at hb'
            rw [← Option.some.inj hb']
            exact e
          · exact hno2 j' b' (by omega) hb'
        have hR2 := s2 _ _ hR
        refine ⟨_, rfl, _, rfl, r, _, _, _, rfl, rfl, SqT.of hR2, atI_nat (hue_at ah), rfl, _, rfl, ?_⟩
        rw [hV_non]
        cases c2 : (hueOf hs a).isNone with
        | true =>
          refine iteF (next ?_ _ (Same.refl _))
          unfold condL
          rw [← Option.not_isNone, c2]
          simp
        | false =>
          refine iteT ⟨_, rfl, _, rfl, r, _, _, _, rfl, rfl, SqT.of hR2, atI_nat (hue_at ah), _, rfl, _, rfl, r, _, _, _, rfl, rfl, SqT.of hR2, atI_nat (hue_at bh), hV_scal _ _, _, rfl, ?_⟩
          rw [hV_eq]
          cases c3 : (hueOf hs a == hueOf hs b) with
          | false =>
            refine iteF (next ?_ _ (Same.refl _))
            unfold condL
            rw [c3]
            simp
          | true =>
            refine iteT ⟨_, rfl, _, rfl, _, rfl, p, natV a, natV b, "int", "int", ds, rfl, hw.mono s2, .int _, .int _, .inr (.inr ⟨a, b, rfl, rfl, ad, bd, fun H3 s3 => ?_⟩)⟩
            refine ⟨_, rfl, ?_⟩
            rw [line_kin ab bd]
            cases c4 : ((kins (elsOf ds)).getD b []).contains a with
            | true =>
              refine iteF' rfl (next ?_ _ s3)
              unfold condL
              rw [c4]
              simp
            | false =>
              have cond : condL (kins (elsOf ds)) hs a b = true := by
                unfold condL
                rw [c4, c3, ← Option.not_isNone, c2, decide_eq_true ab]
                rfl
              refine iteT' rfl ⟨_, rfl, _, rfl, _, rfl, fun q dx hq hdx ne => ?_⟩
              refine ⟨q, dx, natV c, natV a, natV b, rfl, upd_same, fun H4 O4 h4 => ⟨rfl, ?_⟩⟩
              have s34 : Same H3 H4 := fun u o e => O4 _ _ (ne_of_none e hq) (upB (ne_of_none e hq) (upB (ne_of_none e hdx) e))
              refine k _ _ (some [a, b]) ((s2.trans s3).trans s34) (.inr ⟨a, b, rfl, List.mem_of_getElem? ha, List.mem_of_getElem? hbx, cond, fun a' ha' b' hb' hc => ?_⟩) (.inr ⟨_, q, rfl, rfl, dx, c, a, b, rfl, h4⟩)
              obtain ⟨i', hi'⟩ := List.mem_iff_getElem?.mp ha'
              obtain ⟨j', hj'⟩ := List.mem_iff_getElem?.mp hb'
              by_cases q1 : i' < i
              · rw [hno i' a' q1 hi' b' hb'] at hc
                cases hc
              · by_cases q2 : i' = i
                · rw [q2, ha] at hi'
                  obtain rfl := Option.some.inj hi'
                  have l1 := (condL_iff.mp hc).1
                  have ij : i < j' := by
                    apply Classical.byContradiction
                    intro z
                    by_cases z2 : j' = i
                    · rw [z2, ha] at hj'
                      have := Option.some.inj hj'
                      omega
                    · have := order hj' ha (by omega)
                      omega
                  by_cases q3 : j' - (i + 1) < j
                  · rw [hno2 (j' - (i + 1)) b' q3 (by rw [List.getElem?_drop, show i + 1 + (j' - (i + 1)) = j' by omega]; exact hj')] at hc
                    cases hc
                  · by_cases q4 : j' = i + 1 + j
                    · rw [q4, hbx] at hj'
                      obtain rfl := Option.some.inj hj'
                      exact .inr ⟨rfl, Nat.le_refl _⟩
                    · exact .inr ⟨rfl, Nat.le_of_lt (order hbx hj' (by omega))⟩
                · exact .inl (order ha hi' (by omega))
      · rintro σ H2 ⟨s2, t2, ⟨x6, rfl⟩, hno2⟩
        refine ⟨s2, ⟨_, _, _, rfl⟩, fun i' a' hi' ha' b hb => ?_⟩
        by_cases z : i' = i
        · rw [z, ha] at ha'
          obtain rfl := Option.some.inj ha'
          obtain ⟨j, hj⟩ := List.mem_iff_getElem?.mp hb
          have hjl := (List.getElem?_eq_some_iff.mp hj).1
          by_cases q : i < j
          · exact hno2 (j - (i + 1)) b (by rw [List.length_map, List.length_drop]; omega) (by rw [List.getElem?_drop, show i + 1 + (j - (i + 1)) = j by omega]; exact hj)
          · have ba : b ≤ a := by
              by_cases q2 : j = i
              · rw [q2, ha] at hj
                exact Nat.le_of_eq (Option.some.inj hj).symm
              · obtain ⟨m1, e1⟩ := List.getElem?_eq_some_iff.mp hj
                obtain ⟨n1, e2⟩ := List.getElem?_eq_some_iff.mp ha
                rw [← e1, ← e2]
                exact Nat.le_of_lt (List.pairwise_iff_getElem.mp up _ _ m1 n1 (by omega))
            cases e : condL (kins (elsOf ds)) hs a b with
            | false => rfl
            | true =>
              have := (condL_iff.mp e).1
              omega
        · exact hno i' a' (by omega) ha' b hb
    · rintro σ H' ⟨sH, ⟨x4, x5, x6, rfl⟩, hno⟩
      refine k .non H' none sH (.inl ⟨rfl, fun a ha b hb => ?_⟩) (.inl ⟨rfl, rfl⟩)
      obtain ⟨i, hi⟩ := List.mem_iff_getElem?.mp ha
      have hil := (List.getElem?_eq_some_iff.mp hi).1
      exact hno i a (by rw [List.length_map]; exact hil) hi b hb
end
end K15

set_option maxRecDepth 100000
set_option maxHeartbeats 8000000
namespace K15
open PySem PySem.Spec PyProof.Rows L2 Kw
/-! ### nested tuples of numbers as data -/
def LayD (n : Nat) (d : PyData) : Prop := d.canLay0 = true ∧ d.depth ≤ n
theorem lay_all {n : Nat} : ∀ {ds : List PyData}, (∀ d ∈ ds, LayD n d) → PyData.canLayAll0 ds = true ∧ PyData.depthAll ds ≤ n
  | [], _ => ⟨by simp [PyData.canLayAll0], by simp [PyData.depthAll]⟩
  | d :: r, h => by
    obtain ⟨h1, h2⟩ := h d List.mem_cons_self
    obtain ⟨h3, h4⟩ := lay_all (ds := r) fun x hx => h x (List.mem_cons_of_mem _ hx)
    refine ⟨by simp [PyData.canLayAll0, h1, h3], ?_⟩
    simp only [PyData.depthAll]
    omega
theorem LayD.tup {n : Nat} {ds : List PyData} (h : ∀ d ∈ ds, LayD n d) : LayD (n + 1) (.tuple ds) := by
  obtain ⟨h1, h2⟩ := lay_all h
  refine ⟨by simp [PyData.canLay0, h1], ?_⟩
  simp only [PyData.depth]
  omega
theorem LayD.int {n : Nat} (i : Int) : LayD n (.int i) := ⟨by simp [PyData.canLay0], by simp [PyData.depth]⟩
theorem LayD.shaped {n : Nat} {d : PyData} (h : LayD n d) (hn : n ≤ 64) : SeqAt.shaped d = true := by
  show (d.canLay0 && decide (d.depth ≤ 64)) = true
  rw [Bool.and_eq_true]
  exact ⟨h.1, decide_eq_true (Nat.le_trans h.2 hn)⟩
theorem LayD.refl {n : Nat} {d : PyData} (h : LayD n d) : PyData.eqv d d = true := SeqAt.eqv_refl d h.1
def dN (n : Nat) : PyData := .int (n : Int)
def dNs (l : List Nat) : PyData := .tuple (l.map dN)
def dNss (ls : List (List Nat)) : PyData := .tuple (ls.map dNs)
def dEnt (d : Ent) : PyData := .tuple [dNs d.1, dN d.2.1, dNs (sortN d.2.2)]
def dEnts (ds : List Ent) : PyData := .tuple (ds.map dEnt)
theorem lay_ns (l : List Nat) : LayD 1 (dNs l) := LayD.tup fun d hd => by
  obtain ⟨n, _, rfl⟩ := List.mem_map.mp hd
  exact .int _
theorem LayD.le {n m : Nat} {d : PyData} (h : LayD n d) (k : n ≤ m) : LayD m d := ⟨h.1, Nat.le_trans h.2 k⟩
theorem lay_nss (ls : List (List Nat)) : LayD 2 (dNss ls) := LayD.tup fun d hd => by
  obtain ⟨n, _, rfl⟩ := List.mem_map.mp hd
  exact lay_ns n
theorem lay_ent (e : Ent) : LayD 2 (dEnt e) := LayD.tup fun d hd => by
  rcases List.mem_cons.mp hd with rfl | hd
  · exact lay_ns _
  · rcases List.mem_cons.mp hd with rfl | hd
    · exact .int _
    · rw [List.mem_singleton.mp hd]
      exact lay_ns _
theorem lay_ents (es : List Ent) : LayD 3 (dEnts es) := LayD.tup fun d hd => by
  obtain ⟨n, _, rfl⟩ := List.mem_map.mp hd
  exact lay_ent n
theorem dp_nats {K : PySem.W.Frag} {H : Hp} : ∀ (l : List Nat), DpAll K H (l.map natV) (l.map dN)
  | [] => .nil
  | n :: r => .cons (.int _) (dp_nats r)
theorem dp_ns {K : PySem.W.Frag} {H : Hp} {t : Addr} {l : List Nat} (h : H t = some (.tup (l.map natV))) : Dp K H (.ref t) (dNs l) := .tup (SqT.of h) (dp_nats l)
theorem dp_tups {K : PySem.W.Frag} {H : Hp} : ∀ {vs : List V} {ls : List (List Nat)}, TupsAt H vs ls → DpAll K H vs (ls.map dNs)
  | [], [], _ => .nil
  | _ :: _, _ :: _, .cons ⟨t, e, h⟩ r => by
    rw [e]
    exact .cons (dp_ns h) (dp_tups r)
theorem dp_ents {K : PySem.W.Frag} {H : Hp} : ∀ {vs : List V} {ds : List Ent}, EntsAt H vs ds → DpAll K H vs (ds.map dEnt)
  | [], [], _ => .nil
  | _ :: _, _ :: _, .cons ⟨t, e, tb, tm, h1, h2, h3⟩ r => by
    rw [e]
    exact .cons (.tup (SqT.of h1) (.cons (dp_ns h2) (.cons (.int _) (.cons (dp_ns h3) .nil)))) (dp_ents r)
/-- what isinstance asks of a class of one's own -/
structure IsiC (K : PySem.W.Frag) (C : Addr) : Prop where
  cla : PySem.W.findIn K (.ref C) "__class__" = some (some (.builtin "object.__class__"))
  get : PySem.W.specialIn K (.builtin "object.__class__") "__get__" = some (some (.builtin "getset_descriptor.__get__"))
  takes : PySem.W.takesIn K (.builtin "object.__class__") = some true
  obj : PySem.W.mroIn K C (.type "object") = some true
theorem kit_self {K : PySem.W.Frag} {C : Addr} : PySem.W.kitOne K (.ref C) (.ref C) = some true := by
  unfold PySem.W.kitOne
  rw [if_pos (beq_iff_eq.mpr rfl)]
/-- t + u of tuples, kept as it is said -/
structure rCatQ (K : PySem.W.Frag) (x y : V) (H : Hp) (Q : VK) : Prop where
  h : rCatA K x y H Q
theorem op_catQ {X : Cx} : OpR X (binaryOp .Add) (rCatQ X.K) := fun pins s σ H x y v u Q I rx ry h => op_catA pins s σ H x y v u Q I rx ry h.h
/-- t + u of tuples, whatever of them is empty -/
theorem cat_q {K : PySem.W.Frag} {H0 H : Hp} {a b : Addr} {xs ys : List V} {Q : VK} (ha : H0 a = some (.tup xs)) (hb : H b = some (.tup ys)) (hl : xs.length + ys.length ≤ sizeLine) (s : Same H0 H) (q : ∀ t H', Same H0 H' → H' t = some (.tup (xs ++ ys)) → Q (.ref t) H') : rCatQ K (.ref a) (.ref b) H Q := by
  refine ⟨a, b, xs, ys, rfl, rfl, SqT.of (s _ _ ha), SqT.of hb, hl, fun e => ?_, fun _ e => ?_, fun _ _ p hp => q p _ (s.trans (same_new hp)) upd_same⟩
  · exact q b H s (by rw [hb, e]; rfl)
  · exact q a H s (by rw [s _ _ ha, e, List.append_nil])
section
variable {P : Program} {w : World} {K : PySem.W.Frag} {mg : Str → Option Value} {base : Heap} {f fS fW fN fC fL fI fU fH fA fK C Cn Cc Cl Cnl : Addr} {fd fdS fdW fdN fdC fdL fdI fdU fdH fdA fdK : FuncData}
/-! ### World.__eq__ -/
def REq (C : Addr) : Addr → Addr → Hp → Prop := fun a b H => ∃ ds, WorldAt H a C ds ∧ WorldAt H b C ds
theorem sc_worldEq : FnScope ["self", "other"] ["self", "other"] (defScope (inClass (top 30) 8)) := ⟨rfl, rfl, rfl, by decide +kernel, rfl, by decide +kernel, by decide +kernel⟩
theorem ok_worldEq (F : FnM K "__eq__" "World.__eq__" (inClass (top 30) 8) f fd) (B : Fr mg) (TC : ClsWorld K mg C) (TI : IsiC K C) (mC : mg "World" = some (.ref C)) : FnOk P w K mg base CX0 1 f fd ["self", "other"] (spEq (REq C)) ∧ Binds K fd ["self", "other"] [] := by
  refine ⟨F.ok sc_worldEq (fun vs H Q E h => ?_) (fun cdv A outer s H vs Q E hr h => ?_), F.bindsN fun _ _ _ _ _ _ us hl => match us, hl with | [_, _], _ => rfl⟩
  · obtain ⟨a, b, rfl, _⟩ := h
    rfl
  · obtain ⟨a, b, rfl, ⟨ds, ha, hb⟩, k⟩ := h
    obtain ⟨dx, ac, _, _, _, _, _, cs, _, _, _, _, h1, h2, h3, _⟩ := ha
    obtain ⟨dy, bc, _, _, _, _, _, cs', _, _, _, _, g1, g2, g3, _⟩ := hb
    refine ⟨_, PSs.nox (pss_one (ps_ret (pe_and (pe_callB call_isi (by rfl) B.isinstance PyProof.Rows.boot_isinstance (pa_cons (pv 1) (pa_cons (pe_glob (v := .ref C) (by rfl) mC rfl) pa_nil)))
      (pe_one (pe_cmpR (op_eqD hr.units) (pe_fld (pv 0) rfl) (pe_fld (pv 1) rfl) (nomark _)))))), ?_⟩
    refine ⟨_, rfl, .ref b, .ref C, .ref C, .ref C, true, rfl, .own C, .base (.ins g1 TC.cl TI.cla TI.get TI.takes TI.obj), kit_self, _, rfl, iteT' rfl ?_⟩
    refine ⟨_, rfl, a, C, dx, _, _, rfl, h1, TC.cl, TC.no _ (List.mem_of_getElem? (i := 0) rfl), rfl, _, rfl, b, C, dy, _, _, rfl, g1, TC.cl, TC.no _ (List.mem_of_getElem? (i := 0) rfl), rfl, dEnts ds, dEnts ds, .tup (SqT.of h2) (dp_ents h3), .tup (SqT.of g2) (dp_ents g3), (lay_ents ds).shaped (by decide), (lay_ents ds).shaped (by decide), ?_⟩
    rw [(lay_ents ds).refl]
    exact k H Ext.rfl'
/-! ### hue_fault -/
theorem worldEld {H : Hp} {p C : Addr} {ds : List Ent} (h : WorldAt H p C ds) {x : Nat} (hx : x < ds.length) : ∃ (dx : Addr) (fs : List (Str × V)) (ae : Addr) (es : List V) (t : Addr), H p = some (.ins C dx fs) ∧ List.lookup ("elders" : Str) fs = some (V.ref ae) ∧ H ae = some (.tup es) ∧ es[x]? = some (.ref t) ∧ H t = some (.tup (((elsOf ds).getD x []).map natV)) := h.elder hx
def spHueFault (C Cc : Addr) : Sp := fun vs H Q _ => ∃ (p a : Addr) (ds : List Ent) (hs : List (Option Nat)), vs = [.ref p, .ref a] ∧ WorldAt H p C ds ∧ validB (ds.map (·.1)) ∧ SeqAt H a (hs.map hV) ∧ hs.length = ds.length ∧ hs.length ≤ 12 ∧ (∀ o ∈ hs, ∀ h, o = some h → h < 8) ∧
  ∀ v H' o, Same H H' → FirstC (kins (elsOf ds)) hs o → OptClash H' Cc v o → Q v H'
theorem sc_hueFault : FnScope ["world", "hues", "row", "c", "clash"] ["world", "hues"] (defScope (top 23)) := ⟨rfl, rfl, rfl, by decide +kernel, rfl, by decide +kernel, by decide +kernel⟩
theorem ok_hueFault (F : FnP K "hue_fault" 23 f fd) (B : Fr mg) (TC : ClsWorld K mg C) (z7 : ∃ t, mg "MOST_HUE" = some (.int 7 t)) (FL : FnP K "on_line" 15 fL fdL) (mL : mg "on_line" = some (.ref fL)) (FC : FnP K "check_class" 14 fC fdC) (mC : mg "check_class" = some (.ref fC)) (FW : FnDf K "is_whole" 11 [.non, .non] fW fdW) (mW : mg "is_whole" = some (.ref fW)) (FN : FnM K "__init__" "NoClass.__init__" (inClass (top 4) 0) fN fdN) (TN : ErrX K mg "NoClass" ["cls"] Cn fN)
    (FI : FnM K "__init__" "Clash.__init__" (inClass (top 18) 0) fI fdI) (TI : ClsF K Cc ["cls", "first", "second"]) (MI : Mk K Cc fI) (mI : mg "Clash" = some (.ref Cc))
    (FS : FnP K "is_sequence" 10 fS fdS) (mS : mg "is_sequence" = some (.ref fS)) (FU : FnP K "is_hue" 21 fU fdU) (mU : mg "is_hue" = some (.ref fU)) (FK : FnP K "check_hues" 22 fK fdK) (mK : mg "check_hues" = some (.ref fK)) (FA : FnP K "clash_among" 24 fA fdA) (mA : mg "clash_among" = some (.ref fA)) :
    FnOk P w K mg base (L2.CX P w) 6 f fd ["world", "hues"] (spHueFault C Cc) := by
  have GA : FnOk P w K mg base (L2.CX P w) 5 fA fdA ["world", "hues", "c", "among"] (spClashAm C Cc) := ok_clashAm FA B TC FL mL FC mC FW mW FN TN FI TI MI mI
  have bA : L2.Binds K fdA ["world", "hues", "c", "among"] [] := FA.bindsN fun _ _ _ _ _ _ us hl => match us, hl with | [_, _, _, _], _ => rfl
  have GK : FnOk P w K mg base CX0 3 fK fdK ["world", "hues"] (spCheckHues C) := ok_checkHues FK B TC z7 FW mW FS mS FU mU
  have bK : L2.Binds K fdK ["world", "hues"] [] := FK.bindsN fun _ _ _ _ _ _ us hl => match us, hl with | [_, _], _ => rfl
  refine F.ok sc_hueFault (fun vs H Q E h => ?_) (fun cdv A outer s H vs Q E hr h => ?_)
  · obtain ⟨p, a, ds, hs, rfl, _⟩ := h
    rfl
  · obtain ⟨p, a, ds, hs, rfl, hw, hv, hA, hl, h12, h8, k⟩ := h
    refine ⟨_, (pss_cons (ps_set (i := 2) sc_hueFault.nd rfl (Or.inl rfl) (pe_call GK (hr.mono (by decide)) (by rfl) mK FK.kp bK .nil pass0 (pa_cons (pv 0) (pa_cons (pv 1) pa_nil))))
      (pss_cons (ps_for (passes_of rfl) rfl (pi_range1 (by rfl) B.range (pa_cons (pe_callB call_len_seq (by rfl) B.len PySem.boot_len (pa_cons (pe_fld (pv 0) rfl) pa_nil)) pa_nil)) (pg_name (i := 3) sc_hueFault.nd rfl (Or.inl rfl))
        (pss_cons (ps_set (i := 4) sc_hueFault.nd rfl (Or.inl rfl) (pe_callS GA hr (by rfl) mA FA.kp bA (fun σ => passAt (takes_of rfl rfl rfl rfl) σ) (pa_cons (pv 0) (pa_cons (pv 2) (pa_cons (pv 3) (pa_cons (pe_op (r := rCatQ K) op_catQ (pe_ix (r := rIxT K) ix_tup (pe_fld (pv 0) rfl) (pv 3) (fun _ _ => rfl)) (pe_tup (pa_cons (pv 3) pa_nil))) pa_nil))))))
        (pss_one (ps_if (pt_cmpR op_notN (pv 4) pe_non (nomark _)) (pss_one (ps_ret (pv 4))) pss_nil))))
      (pss_one (ps_ret pe_non)))), ?_⟩
    refine ⟨_, rfl, _, rfl, p, a, ds, hs, rfl, hw, hA, hl, h12, h8, fun t H1 s1 ht => ?_⟩
    have hw1 := hw.mono s1
    obtain ⟨dx, ac, ab, ao, am, ae, ah, cs, bs, ms, es, hs', h1, h2, h3, _⟩ := hw1
    have n12 : (cs.length : Int) = (ds.length : Int) := by rw [h3.len]
    refine ⟨_, rfl, p, C, dx, _, _, rfl, h1, TC.cl, TC.no _ (List.mem_of_getElem? (i := 0) rfl), rfl, ac, cs, rfl, .inr (SqT.of h2), _, rfl, by omega, by omega, ?_⟩
    rw [h3.len]
    have kl : (kins (elsOf ds)).length = ds.length := by rw [kins_len, elsOf_len]
    refine for_range (n := ds.length) (fun i σ H' => Same H1 H' ∧ (∃ x3 x4, σ = [some (.ref p), some (.ref a), some (.ref t), x3, x4]) ∧ ∀ c' < i, Least (condL (kins (elsOf ds)) hs) ((kins (elsOf ds)).getD c' []) none)
      ⟨Same.refl _, ⟨_, _, rfl⟩, fun c' z => absurd z (Nat.not_lt_zero _)⟩ ?_ ?_
    · rintro i σ H' hi ⟨sH, ⟨x3, x4, rfl⟩, hno⟩
      have hw2 := (hw.mono s1).mono sH
      obtain ⟨dx', fs', ae', es', t', p1, p2, p3, p4, p5⟩ := worldEld hw2 hi
      have ei : (0 : Int) + (i : Int) = (i : Int) := by omega
      rw [ei]
      refine ⟨_, rfl, _, rfl, _, rfl, _, rfl, p, C, dx', _, _, rfl, p1, TC.cl, TC.no _ (List.mem_of_getElem? (i := 4) rfl), p2, _, rfl, ae', es', (i : Int), _, rfl, rfl, SqT.of p3, atI_nat p4, _, rfl, (by show 1 ≤ sizeLine; decide), fun T hT => ?_⟩
      have sT := same_new (o := .tup [natV i]) hT
      have row_eq : ((elsOf ds).getD i []).map natV ++ [natV i] = ((kins (elsOf ds)).getD i []).map natV := by
        rw [kins_els hi, List.map_append]
        rfl
      have row12 : ((elsOf ds).getD i []).length ≤ 12 := by
        obtain ⟨l, hl2⟩ : ∃ l, (elsOf ds)[i]? = some l := ⟨_, List.getElem?_eq_getElem (by rw [elsOf_len]; exact hi)⟩
        have := elders_len_row _ _ _ hl2
        rw [List.length_map] at this
        rw [List.getD_eq_getElem?_getD, hl2]
        show l.length ≤ 12
        omega
      obtain ⟨upk, lek⟩ := kin_up (ds.map (·.1)) i (by rw [List.length_map]; exact hi)
      have kk : kinOf (elders (ds.map (·.1))) i = (kins (elsOf ds)).getD i [] := (kins_getD (by rw [elders_len, List.length_map]; exact hi)).symm
      rw [kk] at upk lek
      refine cat_q p5 upd_same (by rw [List.length_map]; show _ + 1 ≤ sizeLine; have : 13 ≤ sizeLine := by decide
                                   omega) (sT) fun q H3 s3 hq => ?_
      have hq : H3 q = some (.tup (((elsOf ds).getD i []).map natV ++ [natV i])) := hq
      rw [row_eq] at hq
      have s23 : Same H' H3 := s3
      have kl12 : ((kins (elsOf ds)).getD i []).length ≤ 12 := by
        have h1 := nodup_sub_len' (ns := List.range 12) (up_nodup upk) fun x hx => List.mem_range.mpr (by have := lek x hx; omega)
        rw [List.length_range] at h1
        exact h1
      refine ⟨p, t, q, i, ds, hs, (kins (elsOf ds)).getD i [], rfl, hw2.mono s23, s23 _ _ (sH _ _ ht), hq, upk, fun x hx => ⟨by have := lek x hx; omega, by have := lek x hx; omega⟩, kl12, fun v H4 o s4 hL hO => ?_⟩
      have s14 : Same H1 H4 := (sH.trans s23).trans s4
      have s04 : Same H H4 := s1.trans s14
      refine ⟨_, rfl, rfl, _, rfl, ?_⟩
      rcases hO with ⟨eo, rfl⟩ | ⟨l, cp, eo, rfl, hcl⟩
      · obtain rfl : o = none := by
          cases o with
          | none => rfl
          | some l => cases eo
        refine iteF' rfl ⟨s14, ⟨_, _, rfl⟩, fun c' hc' => ?_⟩
        by_cases z : c' = i
        · rw [z]
          exact hL
        · exact hno c' (by omega)
      · cases o with
        | none => cases eo
        | some l0 =>
          obtain rfl : i :: l0 = l := Option.some.inj eo
          rcases hL with ⟨z, _⟩ | ⟨a', b', z, hL⟩
          · cases z
          · obtain rfl := Option.some.inj z
            refine iteT' rfl ⟨_, rfl, k _ H4 (some [i, a', b']) s04 (.inr ⟨i, a', b', rfl, by rw [kl]; exact hi, hno, .inr ⟨a', b', rfl, hL⟩⟩) (.inr ⟨_, cp, rfl, rfl, hcl⟩)⟩
    · rintro σ H' ⟨sH, ⟨x3, x4, rfl⟩, hno⟩
      exact k .non H' none (s1.trans sH) (.inl ⟨rfl, fun c hc => hno c (by rw [kl] at hc; exact hc)⟩) (.inl ⟨rfl, rfl⟩)
end
end K15

set_option maxRecDepth 100000
set_option maxHeartbeats 8000000
namespace K15
open PySem PySem.Spec PyProof.Rows L2 Kw
section
variable {P : Program} {w : World} {K : PySem.W.Frag} {mg : Str → Option Value} {base : Heap} {f fS fW fN fC fL fI fU fH fA fK fX C Cn Cc Cl Cnl : Addr} {fd fdS fdW fdN fdC fdL fdI fdU fdH fdA fdK fdX : FuncData}
theorem sc_notLine : FnScope ["self", "cls", "first", "second"] ["self", "cls", "first", "second"] (defScope (inClass (top 6) 0)) := ⟨rfl, rfl, rfl, by decide +kernel, rfl, by decide +kernel, by decide +kernel⟩
theorem ok_notLine (F : FnM K "__init__" "NotLine.__init__" (inClass (top 6) 0) f fd) (T : ErrX K mg "NotLine" ["cls", "first", "second"] C f) : FnOk P w K mg base CX0 1 f fd ["self", "cls", "first", "second"] (spR C ["cls", "first", "second"]) ∧ Binds K fd ["self", "cls", "first", "second"] [] := by
  refine ⟨F.ok sc_notLine (fun vs H Q E h => ?_) (fun cdv A outer s H vs Q E hr h => ?_), F.bindsN fun _ _ _ _ _ _ us hl => match us, hl with | [_, _, _, _], _ => rfl⟩
  · obtain ⟨a, xs, rfl, hl, _⟩ := h
    exact congrArg Nat.succ hl
  · obtain ⟨a, xs, rfl, hl, ha, k⟩ := h
    match xs, hl with
    | [x1, x2, x3], _ =>
      refine ⟨_, PSs.nox (pss_cons (ps_ost (pv 0) (pv 1)) (pss_cons (ps_ost (pv 0) (pv 2)) (pss_one (ps_ost (pv 0) (pv 3))))), ?_⟩
      refine ⟨_, rfl, _, rfl, a, C, rfl, T.oex, T.no _ (List.mem_of_getElem? (i := 0) rfl), .inl ⟨ha, fun dx hd ne => ?_⟩⟩
      have A1 := @upd_same (upd H dx (exd dx [("cls", x1)])) a (exo a C (some dx))
      have D1 : upd (upd H dx (exd dx [("cls", x1)])) a (exo a C (some dx)) dx = some (exd dx [("cls", x1)]) := upB ne upd_same
      have B1 : ∀ b o, b ≠ a → H b = some o → upd (upd H dx (exd dx [("cls", x1)])) a (exo a C (some dx)) b = some o := fun b o hb e => upB hb (upB (ne_of_none e hd) e)
      generalize hG1 : upd (upd H dx (exd dx [("cls", x1)])) a (exo a C (some dx)) = G1 at A1 D1 B1 ⊢
      refine ⟨_, rfl, _, rfl, a, C, rfl, T.oex, T.no _ (List.mem_of_getElem? (i := 1) rfl), .inr ⟨dx, [("cls", x1)], A1, D1, (by show 1 ≤ 900; decide), ?_⟩⟩
      have A2 : upd G1 dx (exd dx [("first", x2), ("cls", x1)]) a = some (exo a C (some dx)) := upB ne.symm A1
      have D2 : upd G1 dx (exd dx [("first", x2), ("cls", x1)]) dx = some (exd dx [("first", x2), ("cls", x1)]) := upd_same
      have B2 : ∀ b o, b ≠ a → H b = some o → upd G1 dx (exd dx [("first", x2), ("cls", x1)]) b = some o := fun b o hb e => upB (ne_of_none e hd) (B1 b o hb e)
      generalize hG2 : upd G1 dx (exd dx [("first", x2), ("cls", x1)]) = G2 at A2 D2 B2 ⊢
      refine ⟨_, rfl, _, rfl, a, C, rfl, T.oex, T.no _ (List.mem_of_getElem? (i := 2) rfl), .inr ⟨dx, _, A2, D2, (by show 2 ≤ 900; decide), ?_⟩⟩
      exact k dx _ hd ne (upB ne.symm A2) upd_same fun b o hb e => upB (ne_of_none e hd) (B2 b o hb e)
/-! ### Ladders -/
def spLadders (C Cl Cnl : Addr) : Sp := fun vs H Q E => ∃ (q dq p a : Addr) (ds : List Ent) (hs : List (Option Nat)), vs = [.ref q, .ref p, .ref a] ∧ H q = some (.ins Cl dq []) ∧ q ≠ p ∧ q ≠ a ∧ WorldAt H p C ds ∧ validB (ds.map (·.1)) ∧ SeqAt H a (hs.map hV) ∧ hs.length = ds.length ∧ hs.length ≤ 12 ∧ (∀ o ∈ hs, ∀ h, o = some h → h < 8) ∧
  (FirstC (kins (elsOf ds)) hs none → ∀ t H', Oth q H H' → H' q = some (.ins Cl dq [("world", .ref p), ("hues", .ref t)]) → H' t = some (.tup (hs.map hV)) → Q .non H') ∧
  ∀ c x y, FirstC (kins (elsOf ds)) hs (some [c, x, y]) → ∀ d H', Same H H' → H' d = some (.xd (errF ["cls", "first", "second"] [natV c, natV x, natV y])) → E (.ref Cnl) (some d) H'
theorem sc_ladders : FnScope ["self", "world", "hues", "fault"] ["self", "world", "hues"] (defScope (inClass (top 20) 0)) := ⟨rfl, rfl, rfl, by decide +kernel, rfl, by decide +kernel, by decide +kernel⟩
theorem ok_ladders (F : FnM K "__init__" "Ladders.__init__" (inClass (top 20) 0) f fd) (TL : ClsF K Cl ["world", "hues"]) (FX : FnM K "__init__" "NotLine.__init__" (inClass (top 6) 0) fX fdX) (TX : ErrX K mg "NotLine" ["cls", "first", "second"] Cnl fX) (B : Fr mg) (TI : ClsF K Cc ["cls", "first", "second"]) (FH : FnP K "hue_fault" 23 fH fdH) (mH : mg "hue_fault" = some (.ref fH))
    (GH : FnOk P w K mg base (L2.CX P w) 6 fH fdH ["world", "hues"] (spHueFault C Cc)) :
    FnOk P w K mg base (L2.CX P w) 7 f fd ["self", "world", "hues"] (spLadders C Cl Cnl) := by
  have bH : L2.Binds K fdH ["world", "hues"] [] := FH.bindsN fun _ _ _ _ _ _ us hl => match us, hl with | [_, _], _ => rfl
  obtain ⟨GX, bX⟩ : FnOk P w K mg base CX0 1 fX fdX ["self", "cls", "first", "second"] (spR Cnl ["cls", "first", "second"]) ∧ Binds K fdX ["self", "cls", "first", "second"] [] := ok_notLine FX TX
  refine F.ok sc_ladders (fun vs H Q E h => ?_) (fun cdv A outer s H vs Q E hr h => ?_)
  · obtain ⟨q, dq, p, a, ds, hs, rfl, _⟩ := h
    rfl
  · obtain ⟨q, dq, p, a, ds, hs, rfl, hq, qp, qa, hw, hv, hA, hl, h12, h8, k1, k2⟩ := h
    refine ⟨_, (pss_cons (ps_set (i := 3) sc_ladders.nd rfl (Or.inl rfl) (pe_callS GH hr (by rfl) mH FH.kp bH (fun σ => passAt (takes_of rfl rfl rfl rfl) σ) (pa_cons (pv 1) (pa_cons (pv 2) pa_nil))))
      (pss_cons (ps_if (pt_cmpR op_notN (pv 3) pe_non (nomark _)) (pss_one (ps_raise rfl (takes_of rfl rfl rfl rfl) (pmk_oex TX.oex TX.ini TX.inT GX (hr.mono (by decide)) bX .nil pass0 (by rfl) TX.mg (pa_cons (pe_fld (pv 3) rfl) (pa_cons (pe_fld (pv 3) rfl) (pa_cons (pe_fld (pv 3) rfl) pa_nil)))))) pss_nil)
      (pss_cons (ps_fld (pv 0) (pv 1) rfl) (pss_one (ps_fld (pv 0) (pe_callTy (T := "tuple") (r := rTupOf K) (call_tup (X := _)) (by rfl) B.tuple (by decide +kernel) (pa_cons (pv 2) pa_nil)) rfl))))), ?_⟩
    refine ⟨_, rfl, _, rfl, p, a, ds, hs, rfl, hw, hv, hA, hl, h12, h8, fun v H1 o s1 hC hO => ?_⟩
    refine ⟨_, rfl, rfl, _, rfl, ?_⟩
    rcases hO with ⟨rfl, rfl⟩ | ⟨l, cp, rfl, rfl, dx, c, x, y, rfl, hcl⟩
    · refine iteF' rfl ⟨_, rfl, _, rfl, q, Cl, dq, [], rfl, s1 _ _ hq, TL.cl, TL.no _ (List.mem_of_getElem? (i := 0) rfl), by simp, ?_⟩
      have O1 : Oth q H (upd H1 q (.ins Cl dq (putF "world" (.ref p) []))) := Oth.upd (Oth.of s1)
      have hA1 : SeqAt (upd H1 q (.ins Cl dq (putF "world" (.ref p) []))) a (hs.map hV) := by
        rcases hA.same s1 with z | z
        · exact .inl (upB (Ne.symm qa) z)
        · exact .inr (upB (Ne.symm qa) z)
      have Q1 : upd H1 q (.ins Cl dq (putF "world" (.ref p) [])) q = some (.ins Cl dq [("world", .ref p)]) := upd_same
      generalize upd H1 q (.ins Cl dq (putF "world" (.ref p) [])) = G at O1 hA1 Q1 ⊢
      refine ⟨_, rfl, ?_⟩
      refine tup_q hA1 fun t H3 s3 ht => ⟨_, rfl, q, Cl, dq, _, rfl, s3 _ _ Q1, TL.cl, TL.no _ (List.mem_of_getElem? (i := 1) rfl), (by show 1 < _; decide), ?_⟩
      have tq : t ≠ q := fun z => by
        have := s3 _ _ Q1
        rw [← z, ht] at this
        cases this
      exact k1 hC t _ (Oth.upd (O1.trans (Oth.of s3))) upd_same (upB tq ht)
    · refine iteT' rfl ⟨_, rfl, cp, Cc, dx, _, _, rfl, hcl, TI.cl, TI.no _ (List.mem_of_getElem? (i := 0) rfl), rfl, _, rfl, cp, Cc, dx, _, _, rfl, hcl, TI.cl, TI.no _ (List.mem_of_getElem? (i := 1) rfl), rfl, _, rfl, cp, Cc, dx, _, _, rfl, hcl, TI.cl, TI.no _ (List.mem_of_getElem? (i := 2) rfl), rfl, ?_⟩
      exact raise_q rfl (by decide) fun d H' s2 _ e => k2 c x y hC d H' (s1.trans s2) e
end
end K15

set_option maxRecDepth 100000
set_option maxHeartbeats 8000000
namespace K15
open PySem PySem.Spec PyProof.Rows L2 Kw
section
variable {P : Program} {w : World} {K : PySem.W.Frag} {mg : Str → Option Value} {base : Heap} {f fP fD : Addr} {fd fdP fdD : FuncData}
theorem ListsAt.sameAll {H H' : Hp} (s : Same H H') : ∀ {vs : List V} {ls : List (List Nat)}, ListsAt H vs ls → ListsAt H' vs ls
  | [], [], _ => .nil
  | _ :: _, _ :: _, .cons ⟨t, e, h⟩ r => .cons ⟨t, e, s _ _ h⟩ (ListsAt.sameAll s r)
def rLenS (K : PySem.W.Frag) : List V → Hp → VK → Prop := fun xs H Q => ∃ p ys, xs = [.ref p] ∧ (SqL K H p ys ∨ SqT K H p ys) ∧ Q (.int ys.length) H
theorem call_lenS {X : Cx} : CallR X (.builtin "len") (rLenS X.K) := call_len_seq
/-- rows of kin as lists, hues as a list -/
def KinH (H : Hp) (ak ah : Addr) (us : List V) (ks : List (List Nat)) (hs : List (Option Nat)) : Prop := H ak = some (.lst us) ∧ ListsAt H us ks ∧ H ah = some (.lst (hs.map hV)) ∧ hs.length = ks.length ∧ ks.length ≤ 12 ∧ KinsOk ks
theorem KinH.same {H H' : Hp} {ak ah : Addr} {us : List V} {ks : List (List Nat)} {hs : List (Option Nat)} (h : KinH H ak ah us ks hs) (s : Same H H') : KinH H' ak ah us ks hs := by
  obtain ⟨h1, h2, h3, h4⟩ := h
  exact ⟨s _ _ h1, ListsAt.sameAll s h2, s _ _ h3, h4⟩
/-! ### depths -/
def depthsOf (ks : List (List Nat)) (hs : List (Option Nat)) : List Int := (List.range ks.length).map (depthI ks hs)
def spDepths : Sp := fun vs H Q _ => ∃ (ak ah : Addr) (us : List V) (ks : List (List Nat)) (hs : List (Option Nat)), vs = [.ref ak, .ref ah] ∧ KinH H ak ah us ks hs ∧ ∀ l H', Same H H' → H' l = some (.lst ((depthsOf ks hs).map V.int)) → Q (.ref l) H'
theorem sc_depths : FnScope ["_law_kin_here", "_law_hues", "_law_one", "_law_c"] ["_law_kin_here", "_law_hues"] (defScope (top 49)) := ⟨rfl, rfl, rfl, by decide +kernel, rfl, by decide +kernel, by decide +kernel⟩
theorem ok_depths (F : FnP K "_law_depths" 49 f fd) (B : Fr mg) : FnOk P w K mg base CX0 1 f fd ["_law_kin_here", "_law_hues"] spDepths := by
  refine F.ok sc_depths (fun vs H Q E h => ?_) (fun cdv A outer s H vs Q E hr h => ?_)
  · obtain ⟨ak, ah, us, ks, hs, rfl, _⟩ := h
    rfl
  · obtain ⟨ak, ah, us, ks, hs, rfl, hk, k⟩ := h
    have hk0 := hk
    obtain ⟨h1, h2, h3, hl, h12, ok⟩ := hk
    refine ⟨_, PSs.nox (pss_one (ps_ret (pe_lc (own := [("_law_c", 3)]) (g := gName 3) (tt := tYes) rfl sc_depths.nd (pi_range1 (by rfl) B.range (pa_cons (pe_callB call_len_seq (by rfl) B.len PySem.boot_len (pa_cons (pv 0) pa_nil)) pa_nil)) (blkOk_by (N := ["_law_kin_here", "_law_hues", "_law_one", "_law_c"]) (sc := defScope (top 49)) (by decide +kernel))
          (fun _ _ _ _ _ => pg_name (i := 3) sc_depths.nd rfl (Or.inr rfl)) (fun _ _ _ _ _ => pts_nil)
          (te := tSub (tCB (rLenS K) (tCons (tLc (iList K (tOp (rIxL K) (tVar 0) (tVar 3))) (gName 2) (tTest (tOp rEq (tOp (rIxL K) (tVar 1) (tVar 2)) (tOp (rIxL K) (tVar 1) (tVar 3)))) (tVar 2) [2]) tNil)) (tC (.int 1)))
          (fun _ _ _ _ _ => ?he)))), ?_⟩
    case he =>
      refine pe_sub (pe_callB (id := "len") (r := rLenS K) (call_lenS (X := _)) (by rfl) B.len PySem.boot_len (pa_cons ?_ pa_nil)) pe_int
      exact pe_lc (own := [("_law_one", 2)]) (g := gName 2) rfl sc_depths.nd (pi_list (pe_ix (r := rIxL K) (ix_list (X := _)) (pv 0) (pv 3) (fun _ _ => rfl))) (blkOk_by (by rfl))
        (fun _ _ _ _ _ => pg_name (i := 2) sc_depths.nd rfl (Or.inl rfl)) (fun _ _ _ _ _ => pts_one (pt_cmpR (r := rEq) op_eq (pe_ix (r := rIxL K) ix_list (pv 1) (pv 2) (fun _ _ => rfl)) (pe_ix (r := rIxL K) ix_list (pv 1) (pv 3) (fun _ _ => rfl)) (nomark _)))
        (fun _ _ _ _ _ => pv 2)
    have hul : us.length = ks.length := h2.len
    refine ⟨_, rfl, ak, us, rfl, .inl (SqL.of h1), _, rfl, by omega, by omega, fun D hD => lc_range (n := us.length) (fun i H2 => Same H H2 ∧ H2 D = some (.lst (((List.range i).map (depthI ks hs)).map V.int))) ⟨same_new hD, upd_same⟩ ?_ ?_⟩
    · rintro i H2 hi ⟨s2, hDu⟩
      have ei : (0 : Int) + (i : Int) = (i : Int) := by omega
      rw [ei]
      have hi' : i < ks.length := by omega
      obtain ⟨row, hrow⟩ : ∃ row, ks[i]? = some row := ⟨_, List.getElem?_eq_getElem hi'⟩
      have hgd : ks.getD i [] = row := by
        rw [List.getD_eq_getElem?_getD, hrow]
        rfl
      obtain ⟨g1, g2, g3, _⟩ := hk0.same s2
      obtain ⟨t, et, ht⟩ := g2.get hrow
      have lrow : row.length ≤ 12 := by
        have upr := ok.up i hi'
        rw [hgd] at upr
        have h1 := nodup_sub_len' (ns := List.range 12) (up_nodup upr) fun x hx => List.mem_range.mpr (by have := ok.le i hi' x (by rw [hgd]; exact hx); omega)
        rw [List.length_range] at h1
        exact h1
      refine ⟨rfl, _, rfl, _, rfl, ak, us, (i : Int), _, rfl, rfl, SqL.of g1, atI_nat et, t, rfl, ⟨_, SqL.of ht⟩, fun D2 hD2 => lc_list (K := K) (a := t) (xs := row.map natV) (fun j H3 => Same H2 H3 ∧ H3 D2 = some (.lst ((likeH hs (row.take j) i).map natV))) ⟨same_new hD2, upd_same⟩ (fun j H3 _ h => SqL.of (h.1 _ _ ht)) ?_ ?_⟩
      · rintro j y H3 hj ⟨s3, hD3⟩
        rw [List.getElem?_map] at hj
        obtain ⟨x, hx, rfl⟩ := Option.map_eq_some_iff.mp hj
        have xl : x < hs.length := by
          have := ok.le i hi' x (by rw [hgd]; exact List.mem_of_getElem? hx)
          omega
        have g3' := s3 _ _ g3
        refine ⟨rfl, _, rfl, _, rfl, ah, _, _, _, rfl, rfl, SqL.of g3', atI_nat (hue_at xl), _, rfl, _, rfl, ah, _, _, _, rfl, rfl, SqL.of g3', atI_nat (hue_at (by omega)), hV_scal _ _, _, rfl, ?_⟩
        rw [hV_eq]
        have hm : likeH hs (row.take (j + 1)) i = likeH hs (row.take j) i ++ (if (hueOf hs x == hueOf hs i) = true then [x] else []) := by
          unfold likeH
          rw [List.take_add_one, hx, Option.toList_some, List.filter_append]
          congr 1
          cases e : (hueOf hs x == hueOf hs i) with
          | true => rw [List.filter_cons_of_pos (by exact e)]; rfl
          | false => rw [List.filter_cons_of_neg (by rw [e]; decide)]; rfl
        cases c3 : (hueOf hs x == hueOf hs i) with
        | true =>
          rw [c3, if_pos rfl] at hm
          refine iteT' rfl ⟨_, rfl, _, hD3, ?_, same_upd s3 hD2, ?_⟩
          · rw [List.length_map]
            refine Nat.lt_of_le_of_lt (List.length_filter_le _ _) ?_
            rw [List.length_take]
            show _ < 2 ^ 24
            omega
          · rw [hm, List.map_append, upd_same]
            rfl
        | false =>
          rw [c3, if_neg (by decide), List.append_nil] at hm
          exact iteF' rfl ⟨s3, by rw [hm]; exact hD3⟩
      · rintro H3 ⟨s3, hD3⟩
        rw [List.length_map, List.take_length] at hD3
        refine ⟨D2, _, rfl, .inl (SqL.of hD3), _, _, rfl, rfl, _, s3 _ _ hDu, ?_, same_upd (s2.trans s3) hD, ?_⟩
        · rw [List.length_map, List.length_map, List.length_range]
          show i < 2 ^ 24
          omega
        · rw [upd_same, List.range_succ, List.map_append, List.map_append]
          congr 3
          show [V.int _] = [V.int (depthI ks hs i)]
          unfold depthI
          rw [hgd, List.length_map]
    · rintro H2 ⟨s2, hDu⟩
      refine k D H2 s2 ?_
      unfold depthsOf
      rw [← hul]
      exact hDu
end
end K15

set_option maxRecDepth 100000
set_option maxHeartbeats 8000000
namespace K15
open PySem PySem.Spec PyProof.Rows L2 Kw
theorem Ty0.isTup {K : PySem.W.Frag} {H : Hp} {x : V} {t : String} (h : Ty0 H x t) : PySem.W.kitOne K (.type t) (.type "tuple") = some (t == "tuple") := by
  cases h <;> exact kit_ty (by decide +kernel)
theorem Ty0.isStr {K : PySem.W.Frag} {H : Hp} {x : V} {t : String} (h : Ty0 H x t) : PySem.W.kitOne K (.type t) (.type "str") = some (t == "str") := by
  cases h <;> exact kit_ty (by decide +kernel)
/-- a plain thing: None, a bool, a number, a text -/
def Flat : V → Prop
  | .non => True
  | .bl _ => True
  | .int _ => True
  | .str _ => True
  | _ => False
/-- the thing is just what is due: plain, or tuples of such, n deep -/
def Exact (H : Hp) : Nat → V → V → Prop
  | 0, x, d => x = d ∧ Flat d
  | n + 1, x, d => (x = d ∧ Flat d) ∨ ∃ a b xs ys, x = .ref a ∧ d = .ref b ∧ H a = some (.tup xs) ∧ H b = some (.tup ys) ∧ xs.length = ys.length ∧ ys.length ≤ 1000 ∧ ∀ (i : Nat) (u v : V), xs[i]? = some u → ys[i]? = some v → Exact H n u v
theorem Exact.same {H H' : Hp} (s : Same H H') : ∀ {n : Nat} {x d : V}, Exact H n x d → Exact H' n x d
  | 0, _, _, h => h
  | n + 1, _, _, .inl h => .inl h
  | n + 1, _, _, .inr ⟨a, b, xs, ys, e1, e2, h1, h2, h3, h5, h4⟩ => .inr ⟨a, b, xs, ys, e1, e2, s _ _ h1, s _ _ h2, h3, h5, fun i u v hu hv => (h4 i u v hu hv).same s⟩
def spExact (n : Nat) : Sp := fun vs H Q _ => ∃ x d, vs = [x, d] ∧ Exact H n x d ∧ ∀ H', Same H H' → Q (.bl true) H'
section
variable {P : Program} {w : World} {K : PySem.W.Frag} {mg : Str → Option Value} {base : Heap} {f fI : Addr} {fd fdI : FuncData}
def spInt : Sp := fun vs H Q _ => ∃ i, vs = [.int i] ∧ Q (.bl true) H
theorem sc_int : FnScope ["_law_thing"] ["_law_thing"] (defScope (top 44)) := ⟨rfl, rfl, rfl, by decide +kernel, rfl, by decide +kernel, by decide +kernel⟩
theorem ok_int (F : FnP K "_law_int" 44 f fd) (B : Fr mg) : FnOk P w K mg base CX0 1 f fd ["_law_thing"] spInt := by
  refine F.ok sc_int (fun vs H Q E h => ?_) (fun cdv A outer s H vs Q E hr h => ?_)
  · obtain ⟨i, rfl, _⟩ := h
    rfl
  · obtain ⟨i, rfl, k⟩ := h
    refine ⟨_, PSs.nox (pss_one (ps_ret (pe_and (pe_callB call_isi (by rfl) B.isinstance PyProof.Rows.boot_isinstance (pa_cons (pv 0) (pa_cons (pe_bltn (v := .ty "int") (by rfl) B.int PyProof.Rows.boot_int rfl) pa_nil)))
      (pe_one (pe_not (pe_callB call_isi (by rfl) B.isinstance PyProof.Rows.boot_isinstance (pa_cons (pv 0) (pa_cons (pe_bltn (v := .ty "bool") (by rfl) B.bool PyProof.Rows.boot_bool rfl) pa_nil)))))))), ?_⟩
    have ty : Ty0 H (.int i) "int" := .int i
    exact ⟨_, rfl, _, _, _, _, _, rfl, .ty "int", ty.x, ty.isInt, _, rfl, iteT' rfl ⟨_, rfl, _, _, _, _, _, rfl, .ty "bool", ty.x, ty.isBool, _, rfl, k⟩⟩
theorem sc_exact : FnScope ["_law_thing", "_law_due", "_law_at"] ["_law_thing", "_law_due"] (defScope (top 45)) := ⟨rfl, rfl, rfl, by decide +kernel, rfl, by decide +kernel, by decide +kernel⟩
theorem ok_exact (F : FnP K "_law_exact" 45 f fd) (B : Fr mg) (zs : mg "str" = none) (mF : mg "_law_exact" = some (.ref f)) (FI : FnP K "_law_int" 44 fI fdI) (mI : mg "_law_int" = some (.ref fI)) : ∀ n : Nat, FnOk P w K mg base CX0 (n + 2) f fd ["_law_thing", "_law_due"] (spExact n) := by
  have GI : FnOk P w K mg base CX0 1 fI fdI ["_law_thing"] spInt := ok_int FI B
  have bI : L2.Binds K fdI ["_law_thing"] [] := FI.bindsN fun _ _ _ _ _ _ us hl => match us, hl with | [_], _ => rfl
  have bF : L2.Binds K fd ["_law_thing", "_law_due"] [] := F.bindsN fun _ _ _ _ _ _ us hl => match us, hl with | [_, _], _ => rfl
  intro n
  induction n with
  | zero =>
    refine F.ok sc_exact (fun vs H Q E h => ?_) (fun cdv A outer s H vs Q E hr h => ?_)
    · obtain ⟨x, d, rfl, _⟩ := h
      rfl
    · obtain ⟨x, d, rfl, ⟨rfl, hf⟩, k⟩ := h
      refine ⟨_, PSs.nox (pss_cons (ps_if (pt_val (pe_callB call_isi (by rfl) B.isinstance PyProof.Rows.boot_isinstance (pa_cons (pv 1) (pa_cons (pe_bltn (v := .ty "tuple") (by rfl) B.tuple PyProof.Rows.boot_tuple rfl) pa_nil)))) (pss_cons ps_never (pss_cons ps_never (pss_one ps_never))) pss_nil)
        (pss_cons (ps_if (pt_cmpR op_isN (pv 1) pe_non (nomark _)) (pss_one (ps_ret (pe_cmpR op_isN (pv 0) pe_non (nomark _)))) pss_nil)
        (pss_cons (ps_if (pt_val (pe_callB call_isi (by rfl) B.isinstance PyProof.Rows.boot_isinstance (pa_cons (pv 1) (pa_cons (pe_bltn (v := .ty "bool") (by rfl) B.bool PyProof.Rows.boot_bool rfl) pa_nil))))
          (pss_one (ps_ret (pe_and (pe_callB call_isi (by rfl) B.isinstance PyProof.Rows.boot_isinstance (pa_cons (pv 0) (pa_cons (pe_bltn (v := .ty "bool") (by rfl) B.bool PyProof.Rows.boot_bool rfl) pa_nil))) (pe_one (pe_cmpR op_eq (pv 0) (pv 1) (nomark _)))))) pss_nil)
        (pss_cons (ps_if (pt_val (pe_callB call_isi (by rfl) B.isinstance PyProof.Rows.boot_isinstance (pa_cons (pv 1) (pa_cons (pe_bltn (v := .ty "int") (by rfl) B.int PyProof.Rows.boot_int rfl) pa_nil))))
          (pss_one (ps_ret (pe_and (pe_call GI (hr.mono (by omega)) (by rfl) mI FI.kp bI .nil pass0 (pa_cons (pv 0) pa_nil)) (pe_one (pe_cmpR op_eq (pv 0) (pv 1) (nomark _)))))) pss_nil)
        (pss_one (ps_ret (pe_and (pe_callB call_isi (by rfl) B.isinstance PyProof.Rows.boot_isinstance (pa_cons (pv 0) (pa_cons (pe_bltn (v := .ty "str") (by rfl) zs PyProof.Rows.boot_str rfl) pa_nil))) (pe_one (pe_cmpR op_eq (pv 0) (pv 1) (nomark _)))))))))), ?_⟩
      have kk : ∀ d' : V, Q (.bl (decide (d' = d'))) H := fun d' => by
        rw [decide_eq_true rfl]
        exact k H (Same.refl H)
      cases x with
      | non =>
        have ty : Ty0 H .non "NoneType" := .non
        exact ⟨_, rfl, _, _, _, _, _, rfl, .ty "tuple", ty.x, ty.isTup, _, rfl, iteF' rfl ⟨_, rfl, rfl, _, rfl, iteT' rfl ⟨_, rfl, rfl, kk .non⟩⟩⟩
      | bl y =>
        have ty : Ty0 H (.bl y) "bool" := .bl y
        exact ⟨_, rfl, _, _, _, _, _, rfl, .ty "tuple", ty.x, ty.isTup, _, rfl, iteF' rfl ⟨_, rfl, rfl, _, rfl, iteF' rfl ⟨_, rfl, _, _, _, _, _, rfl, .ty "bool", ty.x, ty.isBool, _, rfl, iteT' rfl ⟨_, rfl, _, _, _, _, _, rfl, .ty "bool", ty.x, ty.isBool, _, rfl, iteT' rfl ⟨_, rfl, _, rfl, rfl, kk _⟩⟩⟩⟩⟩
      | int y =>
        have ty : Ty0 H (.int y) "int" := .int y
        exact ⟨_, rfl, _, _, _, _, _, rfl, .ty "tuple", ty.x, ty.isTup, _, rfl, iteF' rfl ⟨_, rfl, rfl, _, rfl, iteF' rfl ⟨_, rfl, _, _, _, _, _, rfl, .ty "bool", ty.x, ty.isBool, _, rfl, iteF' rfl ⟨_, rfl, _, _, _, _, _, rfl, .ty "int", ty.x, ty.isInt, _, rfl, iteT' rfl ⟨_, rfl, y, rfl, _, rfl, iteT' rfl ⟨_, rfl, _, rfl, rfl, kk _⟩⟩⟩⟩⟩⟩
      | str y =>
        have ty : Ty0 H (.str y) "str" := .str y
        exact ⟨_, rfl, _, _, _, _, _, rfl, .ty "tuple", ty.x, ty.isTup, _, rfl, iteF' rfl ⟨_, rfl, rfl, _, rfl, iteF' rfl ⟨_, rfl, _, _, _, _, _, rfl, .ty "bool", ty.x, ty.isBool, _, rfl, iteF' rfl ⟨_, rfl, _, _, _, _, _, rfl, .ty "int", ty.x, ty.isInt, _, rfl, iteF' rfl ⟨_, rfl, _, _, _, _, _, rfl, .ty "str", ty.x, ty.isStr, _, rfl, iteT' rfl ⟨_, rfl, _, rfl, rfl, kk _⟩⟩⟩⟩⟩⟩
      | _ => exact False.elim hf
  | succ n ih =>
    refine F.ok sc_exact (fun vs H Q E h => ?_) (fun cdv A outer s H vs Q E hr h => ?_)
    · obtain ⟨x, d, rfl, _⟩ := h
      rfl
    · obtain ⟨x, d, rfl, he, k⟩ := h
      refine ⟨_, PSs.nox (pss_cons (ps_if (pt_val (pe_callB call_isi (by rfl) B.isinstance PyProof.Rows.boot_isinstance (pa_cons (pv 1) (pa_cons (pe_bltn (v := .ty "tuple") (by rfl) B.tuple PyProof.Rows.boot_tuple rfl) pa_nil)))) (pss_cons (ps_if (PW.pt (pw_or (pt_not (pt_val (pe_callB call_isi (by rfl) B.isinstance PyProof.Rows.boot_isinstance (pa_cons (pv 0) (pa_cons (pe_bltn (v := .ty "tuple") (by rfl) B.tuple PyProof.Rows.boot_tuple rfl) pa_nil))))) (pw_or1 (pt_cmpR op_ne (pe_callB call_len_seq (by rfl) B.len PySem.boot_len (pa_cons (pv 0) pa_nil)) (pe_callB call_len_seq (by rfl) B.len PySem.boot_len (pa_cons (pv 1) pa_nil)) (nomark _))))) (pss_one (ps_ret pe_bl)) pss_nil)
          (pss_cons (ps_for PassesOwn.never rfl (pi_range1 (by rfl) B.range (pa_cons (pe_callB call_len_seq (by rfl) B.len PySem.boot_len (pa_cons (pv 1) pa_nil)) pa_nil)) (pg_name (i := 2) sc_exact.nd rfl (Or.inl rfl))
            (pss_one (ps_if (pt_not (pt_val (pe_call ih hr (by rfl) mF F.kp bF .nil pass0 (pa_cons (pe_ix (r := rIxT K) ix_tup (pv 0) (pv 2) (fun _ _ => rfl)) (pa_cons (pe_ix (r := rIxT K) ix_tup (pv 1) (pv 2) (fun _ _ => rfl)) pa_nil))))) (pss_one (ps_ret pe_bl)) pss_nil)))
          (pss_one (ps_ret pe_bl)))) pss_nil)
        (pss_cons (ps_if (pt_cmpR op_isN (pv 1) pe_non (nomark _)) (pss_one (ps_ret (pe_cmpR op_isN (pv 0) pe_non (nomark _)))) pss_nil)
        (pss_cons (ps_if (pt_val (pe_callB call_isi (by rfl) B.isinstance PyProof.Rows.boot_isinstance (pa_cons (pv 1) (pa_cons (pe_bltn (v := .ty "bool") (by rfl) B.bool PyProof.Rows.boot_bool rfl) pa_nil))))
          (pss_one (ps_ret (pe_and (pe_callB call_isi (by rfl) B.isinstance PyProof.Rows.boot_isinstance (pa_cons (pv 0) (pa_cons (pe_bltn (v := .ty "bool") (by rfl) B.bool PyProof.Rows.boot_bool rfl) pa_nil))) (pe_one (pe_cmpR op_eq (pv 0) (pv 1) (nomark _)))))) pss_nil)
        (pss_cons (ps_if (pt_val (pe_callB call_isi (by rfl) B.isinstance PyProof.Rows.boot_isinstance (pa_cons (pv 1) (pa_cons (pe_bltn (v := .ty "int") (by rfl) B.int PyProof.Rows.boot_int rfl) pa_nil))))
          (pss_one (ps_ret (pe_and (pe_call GI (hr.mono (by omega)) (by rfl) mI FI.kp bI .nil pass0 (pa_cons (pv 0) pa_nil)) (pe_one (pe_cmpR op_eq (pv 0) (pv 1) (nomark _)))))) pss_nil)
        (pss_one (ps_ret (pe_and (pe_callB call_isi (by rfl) B.isinstance PyProof.Rows.boot_isinstance (pa_cons (pv 0) (pa_cons (pe_bltn (v := .ty "str") (by rfl) zs PyProof.Rows.boot_str rfl) pa_nil))) (pe_one (pe_cmpR op_eq (pv 0) (pv 1) (nomark _)))))))))), ?_⟩
      rcases he with ⟨rfl, hf⟩ | ⟨a, b, xs, ys, rfl, rfl, ha, hb, hl, hz, hi⟩
      · have kk : ∀ d' : V, Q (.bl (decide (d' = d'))) H := fun d' => by
          rw [decide_eq_true rfl]
          exact k H (Same.refl H)
        cases x with
        | non =>
          have ty : Ty0 H .non "NoneType" := .non
          exact ⟨_, rfl, _, _, _, _, _, rfl, .ty "tuple", ty.x, ty.isTup, _, rfl, iteF' rfl ⟨_, rfl, rfl, _, rfl, iteT' rfl ⟨_, rfl, rfl, kk .non⟩⟩⟩
        | bl y =>
          have ty : Ty0 H (.bl y) "bool" := .bl y
          exact ⟨_, rfl, _, _, _, _, _, rfl, .ty "tuple", ty.x, ty.isTup, _, rfl, iteF' rfl ⟨_, rfl, rfl, _, rfl, iteF' rfl ⟨_, rfl, _, _, _, _, _, rfl, .ty "bool", ty.x, ty.isBool, _, rfl, iteT' rfl ⟨_, rfl, _, _, _, _, _, rfl, .ty "bool", ty.x, ty.isBool, _, rfl, iteT' rfl ⟨_, rfl, _, rfl, rfl, kk _⟩⟩⟩⟩⟩
        | int y =>
          have ty : Ty0 H (.int y) "int" := .int y
          exact ⟨_, rfl, _, _, _, _, _, rfl, .ty "tuple", ty.x, ty.isTup, _, rfl, iteF' rfl ⟨_, rfl, rfl, _, rfl, iteF' rfl ⟨_, rfl, _, _, _, _, _, rfl, .ty "bool", ty.x, ty.isBool, _, rfl, iteF' rfl ⟨_, rfl, _, _, _, _, _, rfl, .ty "int", ty.x, ty.isInt, _, rfl, iteT' rfl ⟨_, rfl, y, rfl, _, rfl, iteT' rfl ⟨_, rfl, _, rfl, rfl, kk _⟩⟩⟩⟩⟩⟩
        | str y =>
          have ty : Ty0 H (.str y) "str" := .str y
          exact ⟨_, rfl, _, _, _, _, _, rfl, .ty "tuple", ty.x, ty.isTup, _, rfl, iteF' rfl ⟨_, rfl, rfl, _, rfl, iteF' rfl ⟨_, rfl, _, _, _, _, _, rfl, .ty "bool", ty.x, ty.isBool, _, rfl, iteF' rfl ⟨_, rfl, _, _, _, _, _, rfl, .ty "int", ty.x, ty.isInt, _, rfl, iteF' rfl ⟨_, rfl, _, _, _, _, _, rfl, .ty "str", ty.x, ty.isStr, _, rfl, iteT' rfl ⟨_, rfl, _, rfl, rfl, kk _⟩⟩⟩⟩⟩⟩
        | _ => exact False.elim hf
      · have ta : Ty0 H (.ref a) "tuple" := .tup ha
        have tb : Ty0 H (.ref b) "tuple" := .tup hb
        refine ⟨_, rfl, _, _, _, _, _, rfl, .ty "tuple", tb.x, tb.isTup, _, rfl, iteT' rfl ?_⟩
        refine ⟨_, rfl, _, _, _, _, _, rfl, .ty "tuple", ta.x, ta.isTup, _, rfl, iteF' rfl ?_⟩
        refine ⟨_, rfl, a, xs, rfl, .inr (SqT.of ha), _, rfl, b, ys, rfl, .inr (SqT.of hb), rfl, _, rfl, ?_⟩
        rw [hl]
        refine iteF' (by simp) ?_
        refine ⟨_, rfl, b, ys, rfl, .inr (SqT.of hb), _, rfl, by omega, by omega, ?_⟩
        refine for_range (n := ys.length) (fun i σ H' => Same H H' ∧ ∃ x2, σ = [some (.ref a), some (.ref b), x2]) ⟨Same.refl _, _, rfl⟩ ?_ ?_
        · rintro i σ H' hil ⟨sH, x2, rfl⟩
          have ei : (0 : Int) + (i : Int) = (i : Int) := by omega
          rw [ei]
          obtain ⟨u, hu⟩ : ∃ u, xs[i]? = some u := ⟨_, List.getElem?_eq_getElem (by omega)⟩
          obtain ⟨v, hv⟩ : ∃ v, ys[i]? = some v := ⟨_, List.getElem?_eq_getElem hil⟩
          refine ⟨_, rfl, _, rfl, a, xs, _, _, rfl, rfl, SqT.of (sH _ _ ha), atI_nat hu, _, rfl, _, rfl, b, ys, _, _, rfl, rfl, SqT.of (sH _ _ hb), atI_nat hv, u, v, rfl, (hi i u v hu hv).same sH, fun H2 s2 => ?_⟩
          exact ⟨_, rfl, iteF' rfl ⟨sH.trans s2, _, rfl⟩⟩
        · rintro σ H' ⟨sH, x2, rfl⟩
          exact k H' sH
end
end K15

set_option maxRecDepth 100000
set_option maxHeartbeats 8000000
namespace K15
open PySem PySem.Spec PyProof.Rows L2 Kw
theorem flat_hV (o : Option Nat) : Flat (hV o) := by cases o <;> exact True.intro
theorem Exact.flat {H : Hp} {x : V} (n : Nat) (h : Flat x) : Exact H n x x := by
  cases n with
  | zero => exact ⟨rfl, h⟩
  | succ n => exact .inl ⟨rfl, h⟩
theorem Exact.tup {H : Hp} {a b : Addr} {xs : List V} (n : Nat) (ha : H a = some (.tup xs)) (hb : H b = some (.tup xs)) (hf : ∀ x ∈ xs, Flat x) (hz : xs.length ≤ 1000) : Exact H (n + 1) (.ref a) (.ref b) :=
  .inr ⟨a, b, xs, xs, rfl, rfl, ha, hb, rfl, hz, fun i u v hu hv => by
    rw [hu] at hv
    rw [← Option.some.inj hv]
    exact Exact.flat n (hf u (List.mem_of_getElem? hu))⟩
section
variable {P : Program} {w : World} {K : PySem.W.Frag} {mg : Str → Option Value} {base : Heap} {f fI fE fL fQ fX C Cn Cc Cl Cnl : Addr} {fd fdI fdE fdL fdQ fdX : FuncData}
def spThree (Cc : Addr) : Sp := fun vs H Q _ => ∃ (t d : V) (o : Option (List Nat)), vs = [t, d] ∧ OptClash H Cc t o ∧ OptTup H d o ∧ ∀ H', Same H H' → Q (.bl true) H'
theorem sc_three : FnScope ["_law_told", "_law_due"] ["_law_told", "_law_due"] (defScope (top 53)) := ⟨rfl, rfl, rfl, by decide +kernel, rfl, by decide +kernel, by decide +kernel⟩
theorem ok_three (F : FnP K "_law_three_right" 53 f fd) (B : Fr mg) (TI : ClsF K Cc ["cls", "first", "second"]) (FE : FnP K "_law_exact" 45 fE fdE) (mE : mg "_law_exact" = some (.ref fE)) (GE : FnOk P w K mg base CX0 3 fE fdE ["_law_thing", "_law_due"] (spExact 1)) : FnOk P w K mg base CX0 4 f fd ["_law_told", "_law_due"] (spThree Cc) := by
  have bE : L2.Binds K fdE ["_law_thing", "_law_due"] [] := FE.bindsN fun _ _ _ _ _ _ us hl => match us, hl with | [_, _], _ => rfl
  refine F.ok sc_three (fun vs H Q E h => ?_) (fun cdv A outer s H vs Q E hr h => ?_)
  · obtain ⟨t, d, o, rfl, _⟩ := h
    rfl
  · obtain ⟨t, d, o, rfl, hc, ht, k⟩ := h
    refine ⟨_, PSs.nox (pss_cons (ps_if (pt_cmpR op_isN (pv 1) pe_non (nomark _)) (pss_one (ps_ret (pe_cmpR op_isN (pv 0) pe_non (nomark _)))) pss_nil)
      (pss_one (ps_ret (pe_and (pe_cmpR op_notN (pv 0) pe_non (nomark _)) (pe_one (pe_call GE hr (by rfl) mE FE.kp bE .nil pass0 (pa_cons (pe_tup (pa_cons (pe_fld (pv 0) rfl) (pa_cons (pe_fld (pv 0) rfl) (pa_cons (pe_fld (pv 0) rfl) pa_nil)))) (pa_cons (pv 1) pa_nil)))))))), ?_⟩
    rcases hc with ⟨rfl, rfl⟩ | ⟨l, cp, rfl, rfl, dx, c, x, y, rfl, hcl⟩
    · rcases ht with ⟨_, rfl⟩ | ⟨l, t, z, _⟩
      · exact ⟨_, rfl, rfl, _, rfl, iteT' rfl ⟨_, rfl, rfl, k H (Same.refl H)⟩⟩
      · cases z
    · rcases ht with ⟨z, _⟩ | ⟨l, t, z, rfl, ht⟩
      · cases z
      · obtain rfl := Option.some.inj z
        refine ⟨_, rfl, rfl, _, rfl, iteF' rfl ⟨_, rfl, rfl, _, rfl, iteT' rfl ?_⟩⟩
        refine ⟨_, rfl, cp, Cc, dx, _, _, rfl, hcl, TI.cl, TI.no _ (List.mem_of_getElem? (i := 0) rfl), rfl, _, rfl, cp, Cc, dx, _, _, rfl, hcl, TI.cl, TI.no _ (List.mem_of_getElem? (i := 1) rfl), rfl, _, rfl, cp, Cc, dx, _, _, rfl, hcl, TI.cl, TI.no _ (List.mem_of_getElem? (i := 2) rfl), rfl, (by show 3 ≤ sizeLine; decide), fun T hT => ?_⟩
        have sT := same_new (o := .tup [natV c, natV x, natV y]) hT
        refine ⟨_, rfl, _, _, rfl, Exact.tup 0 upd_same (sT _ _ ht) (fun v hv => ?_) (by show 3 ≤ 1000; decide), fun H2 s2 => k H2 (sT.trans s2)⟩
        have hv : v ∈ [c, x, y].map natV := hv
        obtain ⟨n, _, rfl⟩ := List.mem_map.mp hv
        exact True.intro
end
end K15

set_option maxRecDepth 100000
set_option maxHeartbeats 8000000
namespace K15
open PySem PySem.Spec PyProof.Rows L2 Kw
theorem passOut {X : Cx} {E : XK} : Passes (L2.CX X.prog X.w) X (fun _ _ _ => False) := fun _ _ _ _ _ _ _ h => by
  obtain ⟨_, _, _, _, _, _, _, _, _, _, _, _, h⟩ := h
  exact h.elim
/-- ladders as an object -/
def LadAt (H : Hp) (q Cl C p : Addr) (ds : List Ent) (hs : List (Option Nat)) : Prop := ∃ dq t, H q = some (.ins Cl dq [("world", .ref p), ("hues", .ref t)]) ∧ H t = some (.tup (hs.map hV)) ∧ WorldAt H p C ds
/-- right hues of a right world -/
structure LadOk (ds : List Ent) (hs : List (Option Nat)) : Prop where
  ok : DsOk ds
  len : hs.length = ds.length
  few : ds.length ≤ 12
  hue : ∀ o ∈ hs, ∀ h, o = some h → h < 8
theorem LadAt.mono {H H' : Hp} {q Cl C p : Addr} {ds : List Ent} {hs : List (Option Nat)} (h : LadAt H q Cl C p ds hs) (s : Same H H') : LadAt H' q Cl C p ds hs := by
  obtain ⟨dq, t, h1, h2, h3⟩ := h
  exact ⟨dq, t, s _ _ h1, s _ _ h2, h3.mono s⟩
def ladH (hs : List (Option Nat)) (row : List Nat) (h : Nat) : List Nat := row.filter fun k => hueOf hs k == some h
theorem ladH_like {hs : List (Option Nat)} {row : List Nat} {x h : Nat} (e : hueOf hs x = some h) : likeH hs row x = ladH hs row h := by
  unfold likeH ladH
  rw [e]
theorem mem_lad {hs : List (Option Nat)} {row : List Nat} {h k : Nat} : k ∈ ladH hs row h ↔ k ∈ row ∧ hueOf hs k = some h := by
  unfold ladH
  rw [List.mem_filter, beq_iff_eq]
theorem kin_props {ds : List Ent} (ok : DsOk ds) {x : Nat} (h : x < ds.length) : ((kins (elsOf ds)).getD x []).Pairwise (· < ·) ∧ (∀ k ∈ (kins (elsOf ds)).getD x [], k ≤ x) := by
  have z := kin_up (ds.map (·.1)) x (by rw [List.length_map]; exact h)
  rw [← kins_getD (by rw [elders_len, List.length_map]; exact h)] at z
  exact z
theorem kin_len {ds : List Ent} (ok : DsOk ds) {x : Nat} (h : x < ds.length) (h12 : ds.length ≤ 12) : ((kins (elsOf ds)).getD x []).length ≤ 12 := by
  obtain ⟨u, l⟩ := kin_props ok h
  have h1 := nodup_sub_len' (ns := List.range 12) (up_nodup u) fun k hk => List.mem_range.mpr (by have := l k hk; omega)
  rw [List.length_range] at h1
  exact h1
theorem sortN_nat {l : List Nat} (up : l.Pairwise (· < ·)) (h6 : ∀ m ∈ l, m < 6) : (sortN l).map natV = l.map natV := by
  have e : ((sortN l).map fun (n : Nat) => (n : Int)).map V.int = (sortN l).map natV := by
    rw [List.map_map]
    rfl
  rw [← e]
  refine asc_one ?_ up fun k => ?_
  · have u : (sortN l).Pairwise (· < ·) := List.Pairwise.filter _ List.pairwise_lt_range
    exact List.pairwise_map.mpr (u.imp fun z => by omega)
  · rw [List.mem_map]
    constructor
    · rintro ⟨n, hn, rfl⟩
      unfold sortN at hn
      rw [List.mem_filter] at hn
      exact ⟨n, by simpa using hn.2, rfl⟩
    · rintro ⟨n, hn, rfl⟩
      refine ⟨n, ?_, rfl⟩
      unfold sortN
      rw [List.mem_filter, List.mem_range]
      exact ⟨h6 n hn, by simpa using hn⟩
section
variable {P : Program} {w : World} {K : PySem.W.Frag} {mg : Str → Option Value} {base : Heap} {f fS fW fN fC fL fI fU fH fA fWW fWI C Cn Cc Cl Cnl Ck Cb : Addr} {fd fdS fdW fdN fdC fdL fdI fdU fdH fdA fdWW fdWI : FuncData}
def LookAt (H : Hp) (p Ck : Addr) (a b c d : V) : Prop := ∃ dx, H p = some (.ins Ck dx [("hue", a), ("place", b), ("found", c), ("answer", d)])
def spLookI (Ck : Addr) : Sp := fun vs H Q _ => ∃ (p dx : Addr) (x y z u : V), vs = [.ref p, x, y, z, u] ∧ H p = some (.ins Ck dx []) ∧ ∀ H', Oth p H H' → LookAt H' p Ck x y z u → Q .non H'
theorem sc_lookI : FnScope ["self", "hue", "place", "found", "answer"] ["self", "hue", "place", "found", "answer"] (defScope (inClass (top 19) 0)) := ⟨rfl, rfl, rfl, by decide +kernel, rfl, by decide +kernel, by decide +kernel⟩
theorem ok_lookI (F : FnM K "__init__" "Look.__init__" (inClass (top 19) 0) f fd) (T : ClsF K Ck ["hue", "place", "found", "answer"]) : FnOk P w K mg base CX0 1 f fd ["self", "hue", "place", "found", "answer"] (spLookI Ck) ∧ Binds K fd ["self", "hue", "place", "found", "answer"] [] := by
  refine ⟨F.ok sc_lookI (fun vs H Q E h => ?_) (fun cdv A outer s H vs Q E hr h => ?_), F.bindsN fun _ _ _ _ _ _ us hl => match us, hl with | [_, _, _, _, _], _ => rfl⟩
  · obtain ⟨p, dx, x, y, z, u, rfl, _⟩ := h
    rfl
  · obtain ⟨p, dx, x, y, z, u, rfl, hp, k⟩ := h
    refine ⟨_, PSs.nox (pss_cons (ps_fld (pv 0) (pv 1) rfl) (pss_cons (ps_fld (pv 0) (pv 2) rfl) (pss_cons (ps_fld (pv 0) (pv 3) rfl) (pss_one (ps_fld (pv 0) (pv 4) rfl))))), ?_⟩
    refine ⟨_, rfl, _, rfl, p, Ck, dx, [], rfl, hp, T.cl, T.no _ (List.mem_of_getElem? (i := 0) rfl), by simp, ?_⟩
    refine ⟨_, rfl, _, rfl, p, Ck, dx, _, rfl, upd_same, T.cl, T.no _ (List.mem_of_getElem? (i := 1) rfl), (by show 1 < _; decide), ?_⟩
    refine ⟨_, rfl, _, rfl, p, Ck, dx, _, rfl, upd_same, T.cl, T.no _ (List.mem_of_getElem? (i := 2) rfl), (by show 2 < _; decide), ?_⟩
    refine ⟨_, rfl, _, rfl, p, Ck, dx, _, rfl, upd_same, T.cl, T.no _ (List.mem_of_getElem? (i := 3) rfl), (by show 3 < _; decide), ?_⟩
    exact k _ (Oth.upd (Oth.upd (Oth.upd (Oth.upd (Oth.of (Same.refl H)))))) ⟨dx, upd_same⟩
/-! ### World.with_class -/
def spWithC (C : Addr) : Sp := fun vs H Q _ => ∃ (p ab am : Addr) (ds : List Ent) (d : Ent), vs = [.ref p, .ref ab, natV d.2.1, .ref am] ∧ WorldAt H p C ds ∧ DsOk ds ∧ ds.length + 1 ≤ 12 ∧ SeqAt H ab (d.1.map natV) ∧ SeqAt H am (d.2.2.map natV) ∧ EOk ds.length d ∧
  ∀ p' H', Same H H' → H p' = none → WorldAt H' p' C (ds ++ [d]) → Q (.ref p') H'
theorem sc_withC : FnScope ["self", "bases", "fields", "methods"] ["self", "bases", "fields", "methods"] (defScope (inClass (top 30) 2)) := ⟨rfl, rfl, rfl, by decide +kernel, rfl, by decide +kernel, by decide +kernel⟩
theorem ok_withC (F : FnM K "with_class" "World.with_class" (inClass (top 30) 2) f fd) (TC : ClsWorld K mg C) (FWW : FnM K "__init__" "World.__init__" (inClass (top 30) 0) fWW fdWW) (MW : Mk K C fWW) (mW : mg "World" = some (.ref C)) (GW : FnOk P w K mg base (L2.CX P w) 4 fWW fdWW ["self", "classes"] (spWorld C Cb)) :
    FnOk P w K mg base CX0 6 f fd ["self", "bases", "fields", "methods"] (spWithC C) ∧ Binds K fd ["self", "bases", "fields", "methods"] [] := by
  have bW : L2.Binds K fdWW ["self", "classes"] [] := FWW.bindsN fun _ _ _ _ _ _ us hl => match us, hl with | [_, _], _ => rfl
  refine ⟨F.ok sc_withC (fun vs H Q E h => ?_) (fun cdv A outer s H vs Q E hr h => ?_), F.bindsN fun _ _ _ _ _ _ us hl => match us, hl with | [_, _, _, _], _ => rfl⟩
  · obtain ⟨p, ab, am, ds, d, rfl, _⟩ := h
    rfl
  · obtain ⟨p, ab, am, ds, d, rfl, hw, ok, h12, hb, hm, eok, k⟩ := h
    refine ⟨_, PSs.nox (pss_one (ps_ret (pe_make MW GW hr (by rfl) mW bW .nil (passOut (E := fun _ _ _ => False)) (pa_cons (pe_op (r := rCatQ K) op_catQ (pe_fld (pv 0) rfl) (pe_tup (pa_cons (pe_tup (pa_cons (pv 1) (pa_cons (pv 2) (pa_cons (pv 3) pa_nil)))) pa_nil))) pa_nil)))), ?_⟩
    obtain ⟨dx, ac, _, _, _, _, _, cs, _, _, _, _, h1, h2, h3, _⟩ := hw
    refine ⟨_, rfl, p, C, dx, _, _, rfl, h1, TC.cl, TC.no _ (List.mem_of_getElem? (i := 0) rfl), rfl, _, rfl, _, rfl, _, rfl, (by show 3 ≤ sizeLine; decide), fun T hT => ⟨(by show 1 ≤ sizeLine; decide), fun U hU => ?_⟩⟩
    have sT := same_new (o := .tup [.ref ab, natV d.2.1, .ref am]) hT
    have sU := same_new (o := .tup [.ref T]) hU
    have size13 : 13 ≤ sizeLine := by decide
    have lcs : cs.length = ds.length := h3.len
    refine cat_q (ys := [.ref T]) (sT _ _ h2) upd_same (by rw [lcs]; show _ + 1 ≤ sizeLine; omega) sU fun t H3 s3' ht x dx' hx hdx ne => ?_
    have s3 := sT.trans s3'
    have sX := (same_new (o := .own x) hdx).trans (same_new (o := .ins C dx' []) (by rw [upd_ne (Ne.symm ne)]; exact hx))
    have X1 : upd (upd H3 dx' (.own x)) x (.ins C dx' []) x = some (.ins C dx' []) := upd_same
    have sHX := s3.trans sX
    have htX := sX _ _ ht
    have hT3 : H3 T = some (.tup [.ref ab, natV d.2.1, .ref am]) := s3' _ _ upd_same
    generalize upd (upd H3 dx' (.own x)) x (.ins C dx' []) = G at sX X1 sHX htX ⊢
    have hTG := sX _ _ hT3
    refine ⟨x, dx', .ref t, rfl, X1, .inr ⟨t, _, ds ++ [d], rfl, .inr htX, by rw [List.length_append, lcs]; show _ + 1 ≠ 0; omega, by rw [List.length_append, lcs]; exact h12, by rw [List.length_append, List.length_append, lcs]; exact Nat.le_refl _, fun i e he => ?_, .inr ⟨by rw [List.length_append, List.length_append, lcs]; rfl, fun H4 O4 hW => ⟨rfl, ?_⟩⟩⟩⟩
    · by_cases q : i < ds.length
      · rw [List.getElem?_append_left q] at he
        obtain ⟨te, e1, tb, tm, e2, e3, e4⟩ := h3.get he
        obtain ⟨o1, o2, o3, o4, o5, o6, o7⟩ := ok i e he
        refine ⟨.ref te, by rw [List.getElem?_append_left (by omega)]; exact e1, te, tb, tm, rfl, .inr (sHX _ _ e2), .inr (sHX _ _ e3), .inr ?_, ⟨o1, by omega, o2⟩, o4, up_nodup o5, o7, o6⟩
        rw [← sortN_nat o5 o6]
        exact sHX _ _ e4
      · rw [List.getElem?_append_right (by omega)] at he
        by_cases q2 : i - ds.length = 0
        · rw [q2] at he
          obtain rfl : d = e := Option.some.inj he
          have ei : i = ds.length := by omega
          subst ei
          obtain ⟨o1, o2, o3, o4, o5, o6, o7⟩ := eok
          refine ⟨.ref T, by rw [List.getElem?_append_right (by omega), lcs, Nat.sub_self]; rfl, T, ab, am, rfl, .inr hTG, hb.same sHX, hm.same sHX, ⟨o1, by omega, o2⟩, o4, up_nodup o5, o7, o6⟩
        · rw [List.getElem?_eq_none (by rw [List.length_singleton]; omega)] at he
          cases he
    · have hx0 : H x = none := by
        cases e : H x with
        | none => rfl
        | some o =>
          rw [s3 _ _ e] at hx
          cases hx
      exact k x H4 (fun b u e => O4 b u (ne_of_none e hx0) (sHX _ _ e)) hx0 hW
end
end K15

set_option maxRecDepth 100000
set_option maxHeartbeats 8000000
namespace K15
open PySem PySem.Spec PyProof.Rows L2 Kw
theorem ladH_take {hs : List (Option Nat)} {row : List Nat} {h j k : Nat} (hk : row[j]? = some k) : ladH hs (row.take (j + 1)) h = ladH hs (row.take j) h ++ (if (hueOf hs k == some h) = true then [k] else []) := by
  unfold ladH
  rw [List.take_add_one, hk, Option.toList_some, List.filter_append]
  congr 1
  cases e : (hueOf hs k == some h) with
  | true => rw [List.filter_cons_of_pos (by exact e)]; rfl
  | false => rw [List.filter_cons_of_neg (by rw [e]; decide)]; rfl
section
variable {P : Program} {w : World} {K : PySem.W.Frag} {mg : Str → Option Value} {base : Heap} {f fS fW fN fC fL fI fU fH fA fO fD C Cn Cc Cl Cnl Ck Cb : Addr} {fd fdS fdW fdN fdC fdL fdI fdU fdH fdA fdO fdD : FuncData}
def spLadOf (C Cl : Addr) : Sp := fun vs H Q _ => ∃ (q p : Addr) (ds : List Ent) (hs : List (Option Nat)) (c h : Nat), vs = [.ref q, natV c, natV h] ∧ LadAt H q Cl C p ds hs ∧ LadOk ds hs ∧ c < ds.length ∧ h < 8 ∧
  ∀ t H', Same H H' → H' t = some (.tup ((ladH hs ((kins (elsOf ds)).getD c []) h).map natV)) → Q (.ref t) H'
theorem sc_ladOf : FnScope ["self", "c", "hue", "k"] ["self", "c", "hue"] (defScope (inClass (top 20) 1)) := ⟨rfl, rfl, rfl, by decide +kernel, rfl, by decide +kernel, by decide +kernel⟩
theorem ok_ladOf (F : FnM K "ladder_of" "Ladders.ladder_of" (inClass (top 20) 1) f fd) (B : Fr mg) (TC : ClsWorld K mg C) (TL : ClsF K Cl ["world", "hues"]) (z7 : ∃ t, mg "MOST_HUE" = some (.int 7 t)) (FC : FnP K "check_class" 14 fC fdC) (mC : mg "check_class" = some (.ref fC)) (FW : FnDf K "is_whole" 11 [.non, .non] fW fdW) (mW : mg "is_whole" = some (.ref fW)) (FN : FnM K "__init__" "NoClass.__init__" (inClass (top 4) 0) fN fdN) (TN : ErrX K mg "NoClass" ["cls"] Cn fN) :
    FnOk P w K mg base CX0 4 f fd ["self", "c", "hue"] (spLadOf C Cl) ∧ Binds K fd ["self", "c", "hue"] [] := by
  have GC : FnOk P w K mg base (L2.CX P w) 3 fC fdC ["world", "c"] (spCheck C Cn) := ok_check FC B TC FW mW FN TN
  have bC : L2.Binds K fdC ["world", "c"] [] := FC.bindsN fun _ _ _ _ _ _ us hl => match us, hl with | [_, _], _ => rfl
  have GW : FnOk P w K mg base CX0 1 fW fdW ["thing", "low", "high"] spWhole := ok_whole FW B
  have bW := binds_whole3 FW
  obtain ⟨t7, z7⟩ := z7
  refine ⟨F.ok sc_ladOf (fun vs H Q E h => ?_) (fun cdv A outer s H vs Q E hr h => ?_), F.bindsN fun _ _ _ _ _ _ us hl => match us, hl with | [_, _, _], _ => rfl⟩
  · obtain ⟨q, p, ds, hs, c, h, rfl, _⟩ := h
    rfl
  · obtain ⟨q, p, ds, hs, c, h, rfl, hL, lok, hc, h8, k⟩ := h
    refine ⟨_, PSs.nox (pss_cons (ps_expr (pe_call GC hr (by rfl) mC FC.kp bC .nil (passOut (E := fun _ _ _ => False)) (pa_cons (pe_fld (pv 0) rfl) (pa_cons (pv 1) pa_nil))))
      (pss_cons (ps_if (pt_not (pt_val (pe_call GW (hr.mono (by decide)) (by rfl) mW FW.kp bW .nil pass0 (pa_cons (pv 2) (pa_cons pe_int (pa_cons (pe_glob (v := .int 7) (by rfl) z7 ⟨_, rfl⟩) pa_nil)))))) (pss_one ps_never) pss_nil)
      (pss_one (ps_ret (pe_callTy (T := "tuple") (r := rTupOf K) (call_tup (X := _)) (by rfl) B.tuple (by decide +kernel) (pa_cons
        (pe_lc (own := [("k", 3)]) (g := gName 3) (tt := tTest (tOp rEq (tOp (rIxT K) (tFld K (tVar 0) "hues") (tVar 3)) (tVar 2))) rfl sc_ladOf.nd (pi_tup (pe_op (r := rCatQ K) op_catQ (pe_ix (r := rIxT K) ix_tup (pe_fld (pe_fld (pv 0) rfl) rfl) (pv 1) (fun _ _ => rfl)) (pe_tup (pa_cons (pv 1) pa_nil)))) (blkOk_by (N := ["self", "c", "hue", "k"]) (sc := defScope (inClass (top 20) 1)) (by decide +kernel))
          (fun _ _ _ _ _ => pg_name (i := 3) sc_ladOf.nd rfl (Or.inl rfl)) (fun _ _ _ _ _ => ?tt)
          (fun _ _ _ _ _ => pv 3)) pa_nil)))))), ?_⟩
    case tt => exact pts_one (pt_cmpR (r := rEq) op_eq (pe_ix (r := rIxT K) ix_tup (pe_fld (pv 0) rfl) (pv 3) (fun _ _ => rfl)) (pv 2) (nomark _))
    obtain ⟨dq, ht, q1, q2, hw⟩ := hL
    refine ⟨_, rfl, q, Cl, dq, _, _, rfl, q1, TL.cl, TL.no _ (List.mem_of_getElem? (i := 0) rfl), rfl, _, rfl, p, natV c, "int", ds, rfl, hw, .int _, .inl ⟨whole_of hc, fun H1 s1 => ?_⟩⟩
    have e7 : wholeB (.int 0) (.int 7) (natV h) = true := whole_of (n := 8) h8
    refine ⟨_, rfl, natV h, .int 0, .int 7, "int", rfl, .int _, .inr ⟨_, rfl⟩, .inr ⟨_, rfl⟩, _, rfl, ?_⟩
    rw [e7]
    refine iteF' rfl ?_
    have hw1 := hw.mono s1
    obtain ⟨dx', fs', ae', es', t', p1, p2, p3, p4, p5⟩ := worldEld hw1 hc
    refine ⟨_, rfl, q, Cl, dq, _, _, rfl, s1 _ _ q1, TL.cl, TL.no _ (List.mem_of_getElem? (i := 0) rfl), rfl, p, C, dx', _, _, rfl, p1, TC.cl, TC.no _ (List.mem_of_getElem? (i := 4) rfl), p2, _, rfl, ae', es', (c : Int), _, rfl, rfl, SqT.of p3, atI_nat p4, _, rfl, (by show 1 ≤ sizeLine; decide), fun T hT => ?_⟩
    have sT := same_new (o := .tup [natV c]) hT
    obtain ⟨upk, lek⟩ := kin_props lok.ok hc
    have klen := kin_len lok.ok hc lok.few
    have size13 : 13 ≤ sizeLine := by decide
    have row_eq : ((elsOf ds).getD c []).map natV ++ [natV c] = ((kins (elsOf ds)).getD c []).map natV := by
      rw [kins_els hc, List.map_append]
      rfl
    have lenE : ((elsOf ds).getD c []).length ≤ 12 := by
      have := congrArg List.length row_eq
      rw [List.length_append, List.length_map, List.length_map, List.length_singleton] at this
      omega
    refine cat_q (ys := [natV c]) p5 upd_same (by rw [List.length_map]; show _ + 1 ≤ sizeLine; omega) sT fun a H3 s3 ha => ?_
    rw [row_eq] at ha
    have s13 := s1.trans s3
    generalize hrow : (kins (elsOf ds)).getD c [] = row at ha upk lek klen k
    refine ⟨a, rfl, ⟨_, SqT.of ha⟩, fun D hD => lc_tup (K := K) (a := a) (xs := row.map natV) (fun j H4 => Same H3 H4 ∧ H4 D = some (.lst ((ladH hs (row.take j) h).map natV))) ⟨same_new hD, upd_same⟩ (fun j H4 _ z => SqT.of (z.1 _ _ ha)) ?_ ?_⟩
    · rintro j y H4 hj ⟨s4, hD4⟩
      rw [List.getElem?_map] at hj
      obtain ⟨x, hx, rfl⟩ := Option.map_eq_some_iff.mp hj
      have xc := lek x (List.mem_of_getElem? hx)
      have xl : x < hs.length := by
        have := lok.len
        omega
      have s04 := s13.trans s4
      refine ⟨rfl, _, rfl, q, Cl, dq, _, _, rfl, s04 _ _ q1, TL.cl, TL.no _ (List.mem_of_getElem? (i := 1) rfl), rfl, _, rfl, ht, _, _, _, rfl, rfl, SqT.of (s04 _ _ q2), atI_nat (hue_at xl), _, rfl, hV_scal (hueOf hs x) (some h), _, rfl, ?_⟩
      have ed : decide (hV (hueOf hs x) = natV h) = (hueOf hs x == some h) := hV_eq (hueOf hs x) (some h)
      rw [ed]
      have hm := ladH_take (hs := hs) (h := h) hx
      cases c3 : (hueOf hs x == some h) with
      | true =>
        rw [c3, if_pos rfl] at hm
        refine iteT' rfl ⟨_, rfl, _, hD4, ?_, same_upd s4 hD, ?_⟩
        · rw [List.length_map]
          refine Nat.lt_of_le_of_lt (List.length_filter_le _ _) ?_
          rw [List.length_take]
          show _ < 2 ^ 24
          omega
        · rw [hm, List.map_append, upd_same]
          rfl
      | false =>
        rw [c3, if_neg (by decide), List.append_nil] at hm
        exact iteF' rfl ⟨s4, by rw [hm]; exact hD4⟩
    · rintro H4 ⟨s4, hD4⟩
      rw [List.length_map, List.take_length] at hD4
      exact tup_q (.inl hD4) fun t H5 s5 ht5 => k t H5 ((s13.trans s4).trans s5) ht5
/-! ### depth_of -/
def spDepOf (C Cl : Addr) : Sp := fun vs H Q _ => ∃ (q p : Addr) (ds : List Ent) (hs : List (Option Nat)) (x h : Nat), vs = [.ref q, natV x] ∧ LadAt H q Cl C p ds hs ∧ LadOk ds hs ∧ x < ds.length ∧ hueOf hs x = some h ∧
  ∀ H', Same H H' → Q (.int (depthI (kins (elsOf ds)) hs x)) H'
theorem hue_lt {hs : List (Option Nat)} (h8 : ∀ o ∈ hs, ∀ h, o = some h → h < 8) {x h : Nat} (e : hueOf hs x = some h) : h < 8 := by
  unfold hueOf at e
  rw [List.getD_eq_getElem?_getD] at e
  cases z : hs[x]? with
  | none =>
    rw [z] at e
    cases e
  | some o =>
    rw [z] at e
    exact h8 o (List.mem_of_getElem? z) h e
theorem sc_depOf : FnScope ["self", "target", "hue"] ["self", "target"] (defScope (inClass (top 20) 2)) := ⟨rfl, rfl, rfl, by decide +kernel, rfl, by decide +kernel, by decide +kernel⟩
theorem ok_depOf (F : FnM K "depth_of" "Ladders.depth_of" (inClass (top 20) 2) f fd) (B : Fr mg) (TC : ClsWorld K mg C) (TL : ClsF K Cl ["world", "hues"]) (FC : FnP K "check_class" 14 fC fdC) (mC : mg "check_class" = some (.ref fC)) (FW : FnDf K "is_whole" 11 [.non, .non] fW fdW) (mW : mg "is_whole" = some (.ref fW)) (FN : FnM K "__init__" "NoClass.__init__" (inClass (top 4) 0) fN fdN) (TN : ErrX K mg "NoClass" ["cls"] Cn fN)
    (ML : Meth K Cl "ladder_of" fL) (GL : FnOk P w K mg base CX0 4 fL fdL ["self", "c", "hue"] (spLadOf C Cl)) (bL : Binds K fdL ["self", "c", "hue"] []) :
    FnOk P w K mg base CX0 5 f fd ["self", "target"] (spDepOf C Cl) ∧ Binds K fd ["self", "target"] [] := by
  have GC : FnOk P w K mg base (L2.CX P w) 3 fC fdC ["world", "c"] (spCheck C Cn) := ok_check FC B TC FW mW FN TN
  have bC : L2.Binds K fdC ["world", "c"] [] := FC.bindsN fun _ _ _ _ _ _ us hl => match us, hl with | [_, _], _ => rfl
  refine ⟨F.ok sc_depOf (fun vs H Q E h => ?_) (fun cdv A outer s H vs Q E hr h => ?_), F.bindsN fun _ _ _ _ _ _ us hl => match us, hl with | [_, _], _ => rfl⟩
  · obtain ⟨q, p, ds, hs, x, h, rfl, _⟩ := h
    rfl
  · obtain ⟨q, p, ds, hs, x, h, rfl, hL, lok, hx, hh, k⟩ := h
    refine ⟨_, PSs.nox (pss_cons (ps_expr (pe_call GC (hr.mono (by decide)) (by rfl) mC FC.kp bC .nil (passOut (E := fun _ _ _ => False)) (pa_cons (pe_fld (pv 0) rfl) (pa_cons (pv 1) pa_nil))))
      (pss_cons (ps_set (i := 2) sc_depOf.nd rfl (Or.inl rfl) (pe_ix (r := rIxT K) ix_tup (pe_fld (pv 0) rfl) (pv 1) (fun _ _ => rfl)))
      (pss_cons (ps_if (pt_cmpR op_isN (pv 2) pe_non (nomark _)) (pss_one ps_never) pss_nil)
      (pss_one (ps_ret (pe_op op_sub (pe_callB call_len_seq (by rfl) B.len PySem.boot_len (pa_cons (pe_meth (pv 0) TL.cl ML GL hr bL .nil pass0 (pa_cons (pv 1) (pa_cons (pv 2) pa_nil))) pa_nil)) pe_int)))))), ?_⟩
    have hL0 := hL
    obtain ⟨dq, ht, q1, q2, hw⟩ := hL
    have h8 := hue_lt lok.hue hh
    have xl : x < hs.length := by rw [lok.len]; exact hx
    refine ⟨_, rfl, q, Cl, dq, _, _, rfl, q1, TL.cl, TL.no _ (List.mem_of_getElem? (i := 0) rfl), rfl, _, rfl, p, natV x, "int", ds, rfl, hw, .int _, .inl ⟨whole_of hx, fun H1 s1 => ?_⟩⟩
    have hat := hue_at xl
    rw [hh] at hat
    refine ⟨_, rfl, q, Cl, dq, _, _, rfl, s1 _ _ q1, TL.cl, TL.no _ (List.mem_of_getElem? (i := 1) rfl), rfl, _, rfl, ht, _, _, _, rfl, rfl, SqT.of (s1 _ _ q2), atI_nat hat, ?_⟩
    refine ⟨_, rfl, rfl, _, rfl, iteF' rfl ?_⟩
    refine ⟨_, rfl, q, dq, _, rfl, s1 _ _ q1, rfl, _, rfl, _, rfl, q, p, ds, hs, x, h, rfl, hL0.mono s1, lok, hx, h8, fun t H2 s2 ht2 => ?_⟩
    refine ⟨t, _, rfl, .inr (SqT.of ht2), _, _, rfl, rfl, ?_⟩
    rw [List.length_map, ← ladH_like hh]
    exact k H2 (s1.trans s2)
/-! ### one_look -/
def foundV (l : List Nat) (d : Nat) : V := match l[d]? with
  | some k => natV k
  | none => .non
def spLook (C Cl Ck : Addr) : Sp := fun vs H Q _ => ∃ (q p : Addr) (ds : List Ent) (hs : List (Option Nat)) (c x h d : Nat), vs = [.ref q, natV c, natV x] ∧ LadAt H q Cl C p ds hs ∧ LadOk ds hs ∧ c < ds.length ∧ x < ds.length ∧ hueOf hs x = some h ∧ depthI (kins (elsOf ds)) hs x = (d : Int) ∧
  ∀ a H', Same H H' → LookAt H' a Ck (natV h) (natV d) (foundV (ladH hs ((kins (elsOf ds)).getD c []) h) d) (.bl (decide (foundV (ladH hs ((kins (elsOf ds)).getD c []) h) d = natV x))) → Q (.ref a) H'
theorem sc_look : FnScope ["self", "c", "target", "place", "hue", "ladder", "found"] ["self", "c", "target"] (defScope (inClass (top 20) 3)) := ⟨rfl, rfl, rfl, by decide +kernel, rfl, by decide +kernel, by decide +kernel⟩
theorem ok_look (F : FnM K "one_look" "Ladders.one_look" (inClass (top 20) 3) f fd) (B : Fr mg) (TC : ClsWorld K mg C) (TL : ClsF K Cl ["world", "hues"]) (FC : FnP K "check_class" 14 fC fdC) (mC : mg "check_class" = some (.ref fC)) (FW : FnDf K "is_whole" 11 [.non, .non] fW fdW) (mW : mg "is_whole" = some (.ref fW)) (FN : FnM K "__init__" "NoClass.__init__" (inClass (top 4) 0) fN fdN) (TN : ErrX K mg "NoClass" ["cls"] Cn fN)
    (ML : Meth K Cl "ladder_of" fL) (GL : FnOk P w K mg base CX0 4 fL fdL ["self", "c", "hue"] (spLadOf C Cl)) (bL : Binds K fdL ["self", "c", "hue"] [])
    (MD : Meth K Cl "depth_of" fD) (GD : FnOk P w K mg base CX0 5 fD fdD ["self", "target"] (spDepOf C Cl)) (bD : Binds K fdD ["self", "target"] [])
    (MI : Mk K Ck fI) (mI : mg "Look" = some (.ref Ck)) (GI : FnOk P w K mg base CX0 1 fI fdI ["self", "hue", "place", "found", "answer"] (spLookI Ck)) (bI : Binds K fdI ["self", "hue", "place", "found", "answer"] []) :
    FnOk P w K mg base CX0 6 f fd ["self", "c", "target"] (spLook C Cl Ck) ∧ Binds K fd ["self", "c", "target"] [] := by
  have GC : FnOk P w K mg base (L2.CX P w) 3 fC fdC ["world", "c"] (spCheck C Cn) := ok_check FC B TC FW mW FN TN
  have bC : L2.Binds K fdC ["world", "c"] [] := FC.bindsN fun _ _ _ _ _ _ us hl => match us, hl with | [_, _], _ => rfl
  refine ⟨F.ok sc_look (fun vs H Q E h => ?_) (fun cdv A outer s H vs Q E hr h => ?_), F.bindsN fun _ _ _ _ _ _ us hl => match us, hl with | [_, _, _], _ => rfl⟩
  · obtain ⟨q, p, ds, hs, c, x, h, d, rfl, _⟩ := h
    rfl
  · obtain ⟨q, p, ds, hs, c, x, h, d, rfl, hL, lok, hc, hx, hh, hd, k⟩ := h
    refine ⟨_, PSs.nox (pss_cons (ps_expr (pe_call GC (hr.mono (by decide)) (by rfl) mC FC.kp bC .nil (passOut (E := fun _ _ _ => False)) (pa_cons (pe_fld (pv 0) rfl) (pa_cons (pv 1) pa_nil))))
      (pss_cons (ps_set (i := 3) sc_look.nd rfl (Or.inl rfl) (pe_meth (pv 0) TL.cl MD GD hr bD .nil pass0 (pa_cons (pv 2) pa_nil)))
      (pss_cons (ps_set (i := 4) sc_look.nd rfl (Or.inl rfl) (pe_ix (r := rIxT K) ix_tup (pe_fld (pv 0) rfl) (pv 2) (fun _ _ => rfl)))
      (pss_cons (ps_set (i := 5) sc_look.nd rfl (Or.inl rfl) (pe_meth (pv 0) TL.cl ML GL (hr.mono (by decide)) bL .nil pass0 (pa_cons (pv 1) (pa_cons (pv 4) pa_nil))))
      (pss_cons (ps_set (i := 6) sc_look.nd rfl (Or.inl rfl) (pe_ifExp (pt_cmpR op_lt (pv 3) (pe_callB call_len_seq (by rfl) B.len PySem.boot_len (pa_cons (pv 5) pa_nil)) (nomark _)) (pe_ix (r := rIxT K) ix_tup (pv 5) (pv 3) (fun _ _ => rfl)) pe_non))
      (pss_one (ps_ret (pe_make MI GI (hr.mono (by decide)) (by rfl) mI bI .nil pass0 (pa_cons (pv 4) (pa_cons (pv 3) (pa_cons (pv 6) (pa_cons (pe_cmpR op_eq (pv 6) (pv 2) (nomark _)) pa_nil)))))))))))), ?_⟩
    have hL0 := hL
    obtain ⟨dq, ht, q1, q2, hw⟩ := hL
    have h8 := hue_lt lok.hue hh
    have xl : x < hs.length := by rw [lok.len]; exact hx
    refine ⟨_, rfl, q, Cl, dq, _, _, rfl, q1, TL.cl, TL.no _ (List.mem_of_getElem? (i := 0) rfl), rfl, _, rfl, p, natV c, "int", ds, rfl, hw, .int _, .inl ⟨whole_of hc, fun H1 s1 => ?_⟩⟩
    refine ⟨_, rfl, q, dq, _, rfl, s1 _ _ q1, rfl, _, rfl, q, p, ds, hs, x, h, rfl, hL0.mono s1, lok, hx, hh, fun H2 s2 => ?_⟩
    rw [hd]
    have s12 := s1.trans s2
    have hat := hue_at xl
    rw [hh] at hat
    refine ⟨_, rfl, q, Cl, dq, _, _, rfl, s12 _ _ q1, TL.cl, TL.no _ (List.mem_of_getElem? (i := 1) rfl), rfl, _, rfl, ht, _, _, _, rfl, rfl, SqT.of (s12 _ _ q2), atI_nat hat, ?_⟩
    refine ⟨_, rfl, q, dq, _, rfl, s12 _ _ q1, rfl, _, rfl, _, rfl, q, p, ds, hs, c, h, rfl, hL0.mono s12, lok, hc, h8, fun t H3 s3 ht3 => ?_⟩
    generalize hl : ladH hs ((kins (elsOf ds)).getD c []) h = lad at k ht3
    have fin : ∀ v, v = foundV lad d → ((tRet (tMake Ck (spLookI Ck) [] (fun _ _ _ => False) (tCons (tVar 4) (tCons (tVar 3) (tCons (tVar 6) (tCons (tOp rEq (tVar 6) (tVar 2)) tNil)))))) { nx := fun _ H' => Q .non H', rt := Q } [some (.ref q), some (natV c), some (natV x), some (natV d), some (natV h), some (.ref t), some v] H3) := fun v ev => by
      have scv : scal v (natV x) = true := by
        rw [ev]
        unfold foundV
        cases lad[d]? <;> rfl
      refine ⟨_, rfl, _, rfl, _, rfl, _, rfl, _, rfl, scv, fun a dx ha hdx ne => ?_⟩
      have sA := (same_new (o := .own a) hdx).trans (same_new (o := .ins Ck dx []) (by rw [upd_ne (Ne.symm ne)]; exact ha))
      refine ⟨a, dx, _, _, _, _, rfl, upd_same, fun H4 O4 hA => ⟨rfl, ?_⟩⟩
      have s34 : Same H3 H4 := fun u o e => O4 _ _ (ne_of_none e ha) (sA _ _ e)
      refine k a H4 ((s12.trans s3).trans s34) ?_
      rw [← ev]
      exact hA
    refine ⟨_, rfl, _, rfl, t, _, rfl, .inr (SqT.of ht3), _, _, rfl, rfl, _, rfl, ?_⟩
    rw [List.length_map]
    by_cases q3 : d < lad.length
    · refine iteT' (decide_eq_true (by omega)) ⟨_, rfl, _, rfl, t, _, _, natV lad[d], rfl, rfl, SqT.of ht3, atI_nat (by rw [List.getElem?_map, List.getElem?_eq_getElem q3]; rfl), ?_⟩
      exact fin _ (by unfold foundV; rw [List.getElem?_eq_getElem q3])
    · refine iteF' (decide_eq_false (by omega)) ?_
      exact fin _ (by unfold foundV; rw [List.getElem?_eq_none (by omega)])
end
end K15

set_option maxRecDepth 100000
set_option maxHeartbeats 8000000
namespace K15
open PySem PySem.Spec PyProof.Rows L2 Kw
theorem els_app {ds : List Ent} {d : Ent} {c : Nat} (h : c < ds.length) : (elsOf (ds ++ [d])).getD c [] = (elsOf ds).getD c [] := by
  unfold elsOf
  have e : (List.map (·.1) (ds ++ [d])).take ds.length = ds.map (·.1) := by
    rw [List.map_append, List.take_append_of_le_length (by rw [List.length_map]; exact Nat.le_refl _), List.take_of_length_le (by rw [List.length_map]; exact Nat.le_refl _)]
  rw [← elders_getD_take (c := ds.length) h, e]
theorem els_fst {ds : List Ent} {d e : Ent} (h : d.1 = e.1) : elsOf (ds ++ [d]) = elsOf (ds ++ [e]) := by
  unfold elsOf
  rw [List.map_append, List.map_append, List.map_cons, List.map_cons, h]
theorem kins_app {ds : List Ent} {d : Ent} {c : Nat} (h : c < ds.length) : (kins (elsOf (ds ++ [d]))).getD c [] = (kins (elsOf ds)).getD c [] := by
  rw [kins_els (by rw [List.length_append]; omega), kins_els h, els_app h]
theorem hue_app {hs : List (Option Nat)} {o : Option Nat} {x : Nat} (h : x < hs.length) : hueOf (hs ++ [o]) x = hueOf hs x := by
  unfold hueOf
  rw [List.getD_eq_getElem?_getD, List.getD_eq_getElem?_getD, List.getElem?_append_left h]
theorem condL_hs {ks : List (List Nat)} {hs hs' : List (Option Nat)} {a b : Nat} (ha : hueOf hs' a = hueOf hs a) (hb : hueOf hs' b = hueOf hs b) : condL ks hs' a b = condL ks hs a b := by
  unfold condL
  rw [ha, hb]
theorem condL_ks {ks ks' : List (List Nat)} {hs : List (Option Nat)} {a b : Nat} (h : ks'.getD b [] = ks.getD b []) : condL ks' hs a b = condL ks hs a b := by
  unfold condL
  rw [h]
theorem least_none {c : Nat → Nat → Bool} {xs : List Nat} (h : Least c xs none) : ∀ a ∈ xs, ∀ b ∈ xs, c a b = false := by
  rcases h with ⟨_, h⟩ | ⟨_, _, z, _⟩
  · exact h
  · cases z
theorem firstC_none {ks : List (List Nat)} {hs : List (Option Nat)} (h : FirstC ks hs none) : ∀ c, c < ks.length → ∀ a ∈ ks.getD c [], ∀ b ∈ ks.getD c [], condL ks hs a b = false := by
  rcases h with ⟨_, h⟩ | ⟨_, _, _, z, _⟩
  · exact fun c hc => least_none (h c hc)
  · cases z
theorem kinsL {ds : List Ent} : (kins (elsOf ds)).length = ds.length := by rw [kins_len, elsOf_len]
theorem DsOk.kins {ds : List Ent} (ok : DsOk ds) : KinsOk (kins (elsOf ds)) := kins_ok ok.valid
theorem firstC_more {ds : List Ent} {d : Ent} {hs : List (Option Nat)} {o : Option Nat} (ok : DsOk (ds ++ [d])) (hl : hs.length = ds.length) (h : FirstC (kins (elsOf ds)) hs none) (hn : Least (condL (kins (elsOf (ds ++ [d]))) hs) ((elsOf (ds ++ [d])).getD ds.length []) none) : FirstC (kins (elsOf (ds ++ [d]))) (hs ++ [o]) none := by
  have h' := firstC_none h
  have kok := ok.kins
  refine .inl ⟨rfl, fun c hc => .inl ⟨rfl, fun a ha b hb => ?_⟩⟩
  rw [kinsL, List.length_append, List.length_singleton] at hc
  have ac := kok.le c (by rw [kinsL, List.length_append, List.length_singleton]; exact hc) a ha
  have bc := kok.le c (by rw [kinsL, List.length_append, List.length_singleton]; exact hc) b hb
  by_cases q : c < ds.length
  · rw [kins_app q] at ha hb
    rw [condL_hs (hue_app (by omega)) (hue_app (by omega)), condL_ks (kins_app (by omega))]
    exact h' c (by rw [kinsL]; exact q) a ha b hb
  · obtain rfl : c = ds.length := by omega
    by_cases qb : b = ds.length
    · cases e : condL (kins (elsOf (ds ++ [d]))) (hs ++ [o]) a b with
      | false => rfl
      | true =>
        have := (condL_iff.mp e).2.2.2
        rw [qb] at this
        exact absurd ha this
    · by_cases qa : a = ds.length
      · cases e : condL (kins (elsOf (ds ++ [d]))) (hs ++ [o]) a b with
        | false => rfl
        | true =>
          have := (condL_iff.mp e).1
          omega
      · rw [condL_hs (hue_app (by omega)) (hue_app (by omega))]
        rw [kins_els (by rw [List.length_append, List.length_singleton]; omega)] at ha hb
        refine least_none hn a ?_ b ?_
        · exact (List.mem_append.mp ha).resolve_right fun z => qa (List.mem_singleton.mp z)
        · exact (List.mem_append.mp hb).resolve_right fun z => qb (List.mem_singleton.mp z)
/-- one look tells -/
theorem look_iff {ks : List (List Nat)} (ok : KinsOk ks) {hs : List (Option Nat)} (h : FirstC ks hs none) {c x hu d : Nat} (hc : c < ks.length) (hx : x < ks.length) (hh : hueOf hs x = some hu) (hd : depthI ks hs x = (d : Int)) :
    (ladH hs (ks.getD c []) hu)[d]? = some x ↔ x ∈ ks.getD c [] := by
  have h' := firstC_none h
  constructor
  · intro e
    exact (mem_lad.mp (List.mem_of_getElem? e)).1
  · intro hxc
    have upL : (ladH hs (ks.getD c []) hu).Pairwise (· < ·) := List.Pairwise.filter _ (ok.up c hc)
    obtain ⟨i, hi⟩ := List.mem_iff_getElem?.mp (mem_lad.mpr ⟨hxc, hh⟩)
    have order : ∀ {m n y z : Nat}, (ladH hs (ks.getD c []) hu)[m]? = some y → (ladH hs (ks.getD c []) hu)[n]? = some z → m < n → y < z := fun hm hn l => by
      obtain ⟨m1, e1⟩ := List.getElem?_eq_some_iff.mp hm
      obtain ⟨n1, e2⟩ := List.getElem?_eq_some_iff.mp hn
      rw [← e1, ← e2]
      exact List.pairwise_iff_getElem.mp upL _ _ m1 n1 l
    have mem : ∀ y, y ∈ (ladH hs (ks.getD c []) hu).take (i + 1) ↔ y ∈ likeH hs (ks.getD x []) x := fun y => by
      constructor
      · intro hy
        obtain ⟨j, hj⟩ := List.mem_iff_getElem?.mp hy
        rw [List.getElem?_take] at hj
        split at hj
        · rename_i jl
          obtain ⟨y1, y2⟩ := mem_lad.mp (List.mem_of_getElem? hj)
          by_cases q : j = i
          · rw [q, hi] at hj
            obtain rfl := Option.some.inj hj
            exact mem_like.mpr ⟨ok.self x hx, rfl⟩
          · have yx := order hj hi (by omega)
            refine mem_like.mpr ⟨?_, by rw [y2, hh]⟩
            apply Classical.byContradiction
            intro z
            have := h' c hc y y1 x hxc
            rw [condL_iff.mpr ⟨yx, by rw [y2]; rfl, by rw [y2, hh], z⟩] at this
            cases this
        · cases hj
      · intro hy
        obtain ⟨y1, y2⟩ := mem_like.mp hy
        have yl := ok.le x hx y y1
        obtain ⟨j, hj⟩ := List.mem_iff_getElem?.mp (mem_lad.mpr ⟨ok.tr c hc x hxc y y1, y2.trans hh⟩)
        have ji : j < i + 1 := by
          apply Classical.byContradiction
          intro z
          have := order hi hj (by omega)
          omega
        exact List.mem_iff_getElem?.mpr ⟨j, by rw [List.getElem?_take, if_pos ji]; exact hj⟩
    have n1 : ((ladH hs (ks.getD c []) hu).take (i + 1)).Nodup := List.Nodup.sublist (List.take_sublist _ _) (up_nodup upL)
    have n2 : (likeH hs (ks.getD x []) x).Nodup := like_nodup (ok.up x hx)
    have l1 := nodup_sub_len' n1 fun y hy => (mem y).mp hy
    have l2 := nodup_sub_len' n2 fun y hy => (mem y).mpr hy
    have il := (List.getElem?_eq_some_iff.mp hi).1
    rw [List.length_take] at l1 l2
    unfold depthI at hd
    have : i = d := by omega
    rw [← this]
    exact hi
section
variable {P : Program} {w : World} {K : PySem.W.Frag} {mg : Str → Option Value} {base : Heap} {f fA fWC fH fX fLI fCO fU C Cn Cc Cl Cnl Cb : Addr} {fd fdA fdWC fdH fdX fdLI fdCO fdU : FuncData}
def spClashOf (C Cl Cc : Addr) : Sp := fun vs H Q _ => ∃ (q p ab : Addr) (ds : List Ent) (hs : List (Option Nat)) (bs : List Nat), vs = [.ref q, .ref ab] ∧ LadAt H q Cl C p ds hs ∧ LadOk ds hs ∧ ds.length + 1 ≤ 12 ∧ SeqAt H ab (bs.map natV) ∧ EOk ds.length (bs, 0, []) ∧
  ∀ v H' o, Same H H' → Least (condL (kins (elsOf (ds ++ [(bs, 0, [])]))) hs) ((elsOf (ds ++ [(bs, 0, [])])).getD ds.length []) o → OptClash H' Cc v (o.map (ds.length :: ·)) → Q v H'
theorem sc_clashOf : FnScope ["self", "bases", "longer", "c"] ["self", "bases"] (defScope (inClass (top 20) 4)) := ⟨rfl, rfl, rfl, by decide +kernel, rfl, by decide +kernel, by decide +kernel⟩
theorem ok_clashOf (F : FnM K "clash_of" "Ladders.clash_of" (inClass (top 20) 4) f fd) (B : Fr mg) (TC : ClsWorld K mg C) (TL : ClsF K Cl ["world", "hues"]) (MW : Meth K C "with_class" fWC) (GW : FnOk P w K mg base CX0 6 fWC fdWC ["self", "bases", "fields", "methods"] (spWithC C)) (bW : Binds K fdWC ["self", "bases", "fields", "methods"] [])
    (FA : FnP K "clash_among" 24 fA fdA) (mA : mg "clash_among" = some (.ref fA)) (GA : FnOk P w K mg base (L2.CX P w) 5 fA fdA ["world", "hues", "c", "among"] (spClashAm C Cc)) :
    FnOk P w K mg base CX0 7 f fd ["self", "bases"] (spClashOf C Cl Cc) ∧ Binds K fd ["self", "bases"] [] := by
  have bA : L2.Binds K fdA ["world", "hues", "c", "among"] [] := FA.bindsN fun _ _ _ _ _ _ us hl => match us, hl with | [_, _, _, _], _ => rfl
  refine ⟨F.ok sc_clashOf (fun vs H Q E h => ?_) (fun cdv A outer s H vs Q E hr h => ?_), F.bindsN fun _ _ _ _ _ _ us hl => match us, hl with | [_, _], _ => rfl⟩
  · obtain ⟨q, p, ab, ds, hs, bs, rfl, _⟩ := h
    rfl
  · obtain ⟨q, p, ab, ds, hs, bs, rfl, hL, lok, h12, hb, eok, k⟩ := h
    refine ⟨_, PSs.nox (pss_cons (ps_set (i := 2) sc_clashOf.nd rfl (Or.inl rfl) (pe_meth (pe_fld (pv 0) rfl) TC.cl MW GW hr bW .nil pass0 (pa_cons (pv 1) (pa_cons pe_int (pa_cons (pe_tup pa_nil) pa_nil)))))
      (pss_cons (ps_set (i := 3) sc_clashOf.nd rfl (Or.inl rfl) (pe_callB call_len_seq (by rfl) B.len PySem.boot_len (pa_cons (pe_fld (pe_fld (pv 0) rfl) rfl) pa_nil)))
      (pss_one (ps_ret (pe_call GA (hr.mono (by decide)) (by rfl) mA FA.kp bA .nil (passOut (E := fun _ _ _ => False)) (pa_cons (pv 2) (pa_cons (pe_fld (pv 0) rfl) (pa_cons (pv 3) (pa_cons (pe_ix (r := rIxT K) ix_tup (pe_fld (pv 2) rfl) (pv 3) (fun _ _ => rfl)) pa_nil))))))))), ?_⟩
    obtain ⟨dq, ht, q1, q2, hw⟩ := hL
    have hw0 := hw
    obtain ⟨dx, ac, _, _, _, _, _, cs, _, _, _, _, h1, h2, h3, _⟩ := hw
    refine ⟨_, rfl, q, Cl, dq, _, _, rfl, q1, TL.cl, TL.no _ (List.mem_of_getElem? (i := 0) rfl), rfl, p, dx, _, rfl, h1, rfl, _, rfl, (by show 0 ≤ sizeLine; decide), fun T hT => ?_⟩
    have sT := same_new (o := .tup []) hT
    refine ⟨p, ab, T, ds, (bs, 0, []), rfl, hw0.mono sT, lok.ok, h12, hb.same sT, .inr upd_same, eok, fun p' H1 s1 hp' hW => ?_⟩
    have s01 := sT.trans s1
    refine ⟨_, rfl, q, Cl, dq, _, _, rfl, s01 _ _ q1, TL.cl, TL.no _ (List.mem_of_getElem? (i := 0) rfl), rfl, p, C, dx, _, _, rfl, s01 _ _ h1, TC.cl, TC.no _ (List.mem_of_getElem? (i := 0) rfl), rfl, ac, cs, rfl, .inr (SqT.of (s01 _ _ h2)), ?_⟩
    rw [h3.len]
    have nl : ds.length < (ds ++ [((bs, 0, []) : Ent)]).length := by rw [List.length_append, List.length_singleton]; omega
    obtain ⟨dx', fs', ae', es', t', p1, p2, p3, p4, p5⟩ := worldEld hW nl
    refine ⟨_, rfl, _, rfl, q, Cl, dq, _, _, rfl, s01 _ _ q1, TL.cl, TL.no _ (List.mem_of_getElem? (i := 1) rfl), rfl, _, rfl, _, rfl, p', C, dx', _, _, rfl, p1, TC.cl, TC.no _ (List.mem_of_getElem? (i := 4) rfl), p2, _, rfl, ae', es', (ds.length : Int), _, rfl, rfl, SqT.of p3, atI_nat p4, ?_⟩
    have okD : DsOk (ds ++ [((bs, 0, []) : Ent)]) := lok.ok.app eok
    obtain ⟨upk, lek⟩ := kin_props okD nl
    have klen := kin_len okD nl (by rw [List.length_append, List.length_singleton]; omega)
    rw [kins_els nl] at upk lek klen
    rw [List.length_append, List.length_singleton] at klen
    refine ⟨p', ht, t', ds.length, _, hs, _, rfl, hW, s01 _ _ q2, p5, (List.pairwise_append.mp upk).1, fun x hx => ?_, by omega, fun v H2 o s2 hLe hO => k v H2 o (s01.trans s2) hLe hO⟩
    have := (List.pairwise_append.mp upk).2.2 x hx ds.length (List.mem_singleton.mpr rfl)
    rw [List.length_append, List.length_singleton, lok.len]
    omega
/-! ### Ladders.with_class -/
def spWithL (C Cl Cnl : Addr) : Sp := fun vs H Q E => ∃ (q p ab am : Addr) (ds : List Ent) (hs : List (Option Nat)) (d : Ent) (o : Option Nat) (oc : Option (List Nat)), vs = [.ref q, .ref ab, natV d.2.1, .ref am, hV o] ∧ LadAt H q Cl C p ds hs ∧ LadOk ds hs ∧ FirstC (kins (elsOf ds)) hs none ∧ ds.length + 1 ≤ 12 ∧ SeqAt H ab (d.1.map natV) ∧ SeqAt H am (d.2.2.map natV) ∧ EOk ds.length d ∧ (∀ h, o = some h → h < 8) ∧
  Least (condL (kins (elsOf (ds ++ [d]))) hs) ((elsOf (ds ++ [d])).getD ds.length []) oc ∧
  (oc = none → ∀ q' p' H', Same H H' → LadAt H' q' Cl C p' (ds ++ [d]) (hs ++ [o]) → Q (.ref q') H') ∧
  ∀ x y, oc = some [x, y] → ∀ ed H', Same H H' → H' ed = some (.xd (errF ["cls", "first", "second"] [natV ds.length, natV x, natV y])) → E (.ref Cnl) (some ed) H'
theorem sc_withL : FnScope ["self", "bases", "fields", "methods", "hue", "longer", "clash"] ["self", "bases", "fields", "methods", "hue"] (defScope (inClass (top 20) 5)) := ⟨rfl, rfl, rfl, by decide +kernel, rfl, by decide +kernel, by decide +kernel⟩
theorem ok_withL (F : FnM K "with_class" "Ladders.with_class" (inClass (top 20) 5) f fd) (B : Fr mg) (TC : ClsWorld K mg C) (TL : ClsF K Cl ["world", "hues"]) (MW : Meth K C "with_class" fWC) (GW : FnOk P w K mg base CX0 6 fWC fdWC ["self", "bases", "fields", "methods"] (spWithC C)) (bW : Binds K fdWC ["self", "bases", "fields", "methods"] [])
    (FU : FnP K "is_hue" 21 fU fdU) (mU : mg "is_hue" = some (.ref fU)) (GU : FnOk P w K mg base CX0 2 fU fdU ["thing"] spIsHue)
    (MCO : Meth K Cl "clash_of" fCO) (GCO : FnOk P w K mg base CX0 7 fCO fdCO ["self", "bases"] (spClashOf C Cl Cc)) (bCO : Binds K fdCO ["self", "bases"] [])
    (TI : ClsF K Cc ["cls", "first", "second"]) (FX : FnM K "__init__" "NotLine.__init__" (inClass (top 6) 0) fX fdX) (TX : ErrX K mg "NotLine" ["cls", "first", "second"] Cnl fX)
    (FLI : FnM K "__init__" "Ladders.__init__" (inClass (top 20) 0) fLI fdLI) (MLI : Mk K Cl fLI) (mLI : mg "Ladders" = some (.ref Cl)) (GLI : FnOk P w K mg base (L2.CX P w) 7 fLI fdLI ["self", "world", "hues"] (spLadders C Cl Cnl)) :
    FnOk P w K mg base (L2.CX P w) 9 f fd ["self", "bases", "fields", "methods", "hue"] (spWithL C Cl Cnl) ∧ Binds K fd ["self", "bases", "fields", "methods", "hue"] [] := by
  have bU : L2.Binds K fdU ["thing"] [] := FU.bindsN fun _ _ _ _ _ _ us hl => match us, hl with | [_], _ => rfl
  have bLI : L2.Binds K fdLI ["self", "world", "hues"] [] := FLI.bindsN fun _ _ _ _ _ _ us hl => match us, hl with | [_, _, _], _ => rfl
  obtain ⟨GX, bX⟩ : FnOk P w K mg base CX0 1 fX fdX ["self", "cls", "first", "second"] (spR Cnl ["cls", "first", "second"]) ∧ Binds K fdX ["self", "cls", "first", "second"] [] := ok_notLine FX TX
  refine ⟨F.ok sc_withL (fun vs H Q E h => ?_) (fun cdv A outer s H vs Q E hr h => ?_), F.bindsN fun _ _ _ _ _ _ us hl => match us, hl with | [_, _, _, _, _], _ => rfl⟩
  · obtain ⟨q, p, ab, am, ds, hs, d, o, oc, rfl, _⟩ := h
    rfl
  · obtain ⟨q, p, ab, am, ds, hs, d, o, oc, rfl, hL, lok, hC, h12, hb, hm, eok, ho8, hLe, k1, k2⟩ := h
    refine ⟨_, (pss_cons (ps_set (i := 5) sc_withL.nd rfl (Or.inl rfl) (pe_meth (pe_fld (pv 0) rfl) TC.cl MW GW (hr.mono (by decide)) bW .nil pass0 (pa_cons (pv 1) (pa_cons (pv 2) (pa_cons (pv 3) pa_nil)))))
      (pss_cons (ps_if (pt_not (pt_val (pe_call GU (hr.mono (by decide)) (by rfl) mU FU.kp bU .nil pass0 (pa_cons (pv 4) pa_nil)))) (pss_one ps_never) pss_nil)
      (pss_cons (ps_set (i := 6) sc_withL.nd rfl (Or.inl rfl) (pe_meth (pv 0) TL.cl MCO GCO (hr.mono (by decide)) bCO .nil pass0 (pa_cons (pv 1) pa_nil)))
      (pss_cons (ps_if (pt_cmpR op_notN (pv 6) pe_non (nomark _)) (pss_one (ps_raise rfl (takes_of rfl rfl rfl rfl) (pmk_oex TX.oex TX.ini TX.inT GX (hr.mono (by decide)) bX .nil pass0 (by rfl) TX.mg (pa_cons (pe_fld (pv 6) rfl) (pa_cons (pe_fld (pv 6) rfl) (pa_cons (pe_fld (pv 6) rfl) pa_nil)))))) pss_nil)
      (pss_one (ps_ret (pe_make MLI GLI hr (by rfl) mLI bLI .nil (passOut (E := fun _ _ _ => False)) (pa_cons (pv 5) (pa_cons (pe_op (r := rCatQ K) op_catQ (pe_fld (pv 0) rfl) (pe_tup (pa_cons (pv 4) pa_nil))) pa_nil))))))))), ?_⟩
    have hL0 := hL
    obtain ⟨dq, ht, q1, q2, hw⟩ := hL
    have hw0 := hw
    obtain ⟨dx, ac, _, _, _, _, _, cs, _, _, _, _, h1, h2, h3, _⟩ := hw
    refine ⟨_, rfl, q, Cl, dq, _, _, rfl, q1, TL.cl, TL.no _ (List.mem_of_getElem? (i := 0) rfl), rfl, p, dx, _, rfl, h1, rfl, _, rfl, _, rfl, _, rfl, p, ab, am, ds, d, rfl, hw0, lok.ok, h12, hb, hm, eok, fun p' H1 s1 hp' hW => ?_⟩
    refine ⟨_, rfl, o, rfl, ho8, _, rfl, iteF' rfl ?_⟩
    have eok0 : EOk ds.length (d.1, 0, []) := ⟨eok.1, eok.2.1, eok.2.2.1, Nat.zero_le _, .nil, (fun m hm => by cases hm), Nat.zero_le _⟩
    refine ⟨_, rfl, q, dq, _, rfl, s1 _ _ q1, rfl, _, rfl, q, p, ab, ds, hs, d.1, rfl, hL0.mono s1, lok, h12, hb.same s1, eok0, fun v H2 o2 s2 hLe2 hO => ?_⟩
    rw [els_fst (ds := ds) (d := ((d.1, 0, []) : Ent)) (e := d) rfl] at hLe2
    obtain rfl : o2 = oc := hLe2.one hLe
    have s12 := s1.trans s2
    refine ⟨_, rfl, rfl, _, rfl, ?_⟩
    rcases hO with ⟨eo, rfl⟩ | ⟨l, cp, eo, rfl, dx2, c, x, y, el, hcl⟩
    · obtain rfl : o2 = none := by
        cases o2 with
        | none => rfl
        | some l => cases eo
      refine iteF' rfl ⟨_, rfl, _, rfl, q, Cl, dq, _, _, rfl, s12 _ _ q1, TL.cl, TL.no _ (List.mem_of_getElem? (i := 1) rfl), rfl, _, rfl, (by show 1 ≤ sizeLine; decide), fun T hT => ?_⟩
      have sT := same_new (o := .tup [hV o]) hT
      have size13 : 13 ≤ sizeLine := by decide
      refine cat_q (ys := [hV o]) (s12 _ _ q2) upd_same (by rw [List.length_map, lok.len]; show _ + 1 ≤ sizeLine; omega) sT fun t H3 s3 ht3 x dx3 hx hdx ne => ?_
      have s03 := s12.trans s3
      have sX := (same_new (o := .own x) hdx).trans (same_new (o := .ins Cl dx3 []) (by rw [upd_ne (Ne.symm ne)]; exact hx))
      have X1 : upd (upd H3 dx3 (.own x)) x (.ins Cl dx3 []) x = some (.ins Cl dx3 []) := upd_same
      have hW3 := hW.mono (s2.trans s3)
      have xp : x ≠ p' := fun z => by
        obtain ⟨_, _, _, _, _, _, _, _, _, _, _, _, g1, _⟩ := hW3
        rw [z, g1] at hx
        cases hx
      have xt : x ≠ t := fun z => by
        rw [z, ht3] at hx
        cases hx
      generalize upd (upd H3 dx3 (.own x)) x (.ins Cl dx3 []) = G at sX X1 ⊢
      have okD : DsOk (ds ++ [d]) := lok.ok.app eok
      have fc := firstC_more (o := o) okD lok.len hC hLe
      have hsl : (hs ++ [o]).length = (ds ++ [d]).length := by rw [List.length_append, List.length_append, lok.len]; rfl
      have ehs : hs.map hV ++ [hV o] = (hs ++ [o]).map hV := by rw [List.map_append]; rfl
      rw [ehs] at ht3
      refine ⟨x, dx3, p', t, ds ++ [d], hs ++ [o], rfl, X1, xp, xt, hW3.mono sX, okD.valid, .inr (sX _ _ ht3), hsl, by rw [hsl, List.length_append, List.length_singleton]; omega, fun o' ho' h e => ?_, fun _ t' H4 O4 hq4 ht4 => ⟨rfl, ?_⟩, fun c x y hC2 => ?_⟩
      · rcases List.mem_append.mp ho' with ho' | ho'
        · exact lok.hue o' ho' h e
        · rw [List.mem_singleton.mp ho'] at e
          exact ho8 h e
      · have s34 : Same H3 H4 := fun b u e => O4 b u (ne_of_none e hx) (sX _ _ e)
        exact k1 rfl x p' H4 (s03.trans s34) ⟨dx3, t', hq4, ht4, hW3.mono s34⟩
      · cases fc.one hC2
    · cases o2 with
      | none => cases eo
      | some l0 =>
        rcases hLe2 with ⟨z, _⟩ | ⟨x', y', z, _⟩
        · cases z
        · obtain rfl := Option.some.inj z
          obtain rfl : [ds.length, x', y'] = l := Option.some.inj eo
          injection el with e1 el
          injection el with e2 el
          injection el with e3 _
          subst e1 e2 e3
          refine iteT' rfl ⟨_, rfl, cp, Cc, dx2, _, _, rfl, hcl, TI.cl, TI.no _ (List.mem_of_getElem? (i := 0) rfl), rfl, _, rfl, cp, Cc, dx2, _, _, rfl, hcl, TI.cl, TI.no _ (List.mem_of_getElem? (i := 1) rfl), rfl, _, rfl, cp, Cc, dx2, _, _, rfl, hcl, TI.cl, TI.no _ (List.mem_of_getElem? (i := 2) rfl), rfl, ?_⟩
          exact raise_q rfl (by decide) fun ed H' s3 _ e => k2 _ _ rfl ed H' (s12.trans s3) e
end
end K15

set_option maxRecDepth 100000
set_option maxHeartbeats 8000000
namespace K15
open PySem PySem.Spec PyProof.Rows L2 Kw
/-- couples of numbers as a list of tuples -/
def PairsAt (H : Hp) : List V → List (Nat × Nat) → Prop := Paired fun v p => ∃ t, v = .ref t ∧ H t = some (.tup [natV p.1, natV p.2])
theorem PairsAt.keep {H H' : Hp} {R : Addr} {us0 : List V} (hR : H R = some (.lst us0)) (s : Oth R H H') : ∀ {us : List V} {ps : List (Nat × Nat)}, PairsAt H us ps → PairsAt H' us ps
  | [], [], _ => .nil
  | _ :: _, _ :: _, .cons ⟨t, e, h⟩ r => .cons ⟨t, e, s _ _ (fun z => by rw [z, hR] at h; cases h) h⟩ (PairsAt.keep hR s r)
theorem PairsAt.same {H H' : Hp} (s : Same H H') : ∀ {us : List V} {ps : List (Nat × Nat)}, PairsAt H us ps → PairsAt H' us ps
  | [], [], _ => .nil
  | _ :: _, _ :: _, .cons ⟨t, e, h⟩ r => .cons ⟨t, e, s _ _ h⟩ (PairsAt.same s r)
theorem PairsAt.app {H : Hp} : ∀ {vs us : List V} {ls ms : List (Nat × Nat)}, PairsAt H vs ls → PairsAt H us ms → PairsAt H (vs ++ us) (ls ++ ms)
  | [], _, [], _, _, h => h
  | _ :: _, _, _ :: _, _, .cons h r, s => .cons h (PairsAt.app r s)
theorem PairsAt.len {H : Hp} {vs : List V} {ls : List (Nat × Nat)} (h : PairsAt H vs ls) : vs.length = ls.length := Paired.length h
def dPair (p : Nat × Nat) : PyData := .tuple [.int (p.1 : Int), .int (p.2 : Int)]
theorem dp_pairs {K : PySem.W.Frag} {H : Hp} : ∀ {us : List V} {ps : List (Nat × Nat)}, PairsAt H us ps → DpAll K H us (ps.map dPair)
  | [], [], _ => .nil
  | _ :: _, _ :: _, .cons ⟨t, e, h⟩ r => by
    rw [e]
    exact .cons (.tup (SqT.of h) (.cons (.int _) (.cons (.int _) .nil))) (dp_pairs r)
theorem lay_pair (p : Nat × Nat) : LayD 1 (dPair p) := LayD.tup fun d hd => by
  rcases List.mem_cons.mp hd with rfl | hd
  · exact .int _
  · rw [List.mem_singleton.mp hd]
    exact .int _
theorem LayD.lst {n : Nat} {ds : List PyData} (h : ∀ d ∈ ds, LayD n d) : LayD (n + 1) (.list ds) := by
  obtain ⟨h1, h2⟩ := lay_all h
  refine ⟨by simp [PyData.canLay0, h1], ?_⟩
  simp only [PyData.depth]
  omega
theorem lay_pairs (ps : List (Nat × Nat)) : LayD 2 (.list (ps.map dPair)) := LayD.lst fun d hd => by
  obtain ⟨p, _, rfl⟩ := List.mem_map.mp hd
  exact lay_pair p
theorem eqv_pair (p q : Nat × Nat) : PyData.eqv (dPair p) (dPair q) = decide (p = q) := by
  obtain ⟨a, b⟩ := p
  obtain ⟨c, d⟩ := q
  have e : PyData.eqv (dPair (a, b)) (dPair (c, d)) = (((a : Int) == (c : Int)) && (((b : Int) == (d : Int)) && true)) := by simp only [dPair, PyData.eqv, PyData.eqvAll]
  rw [e, Bool.eq_iff_iff, Bool.and_eq_true, Bool.and_true, beq_iff_eq, beq_iff_eq, decide_eq_true_eq]
  constructor
  · rintro ⟨h1, h2⟩
    rw [show a = c by omega, show b = d by omega]
  · intro h
    cases h
    exact ⟨rfl, rfl⟩
theorem any_pair (ps : List (Nat × Nat)) (q : Nat × Nat) : ((ps.map dPair).any fun z => PyData.eqv z (dPair q)) = decide (q ∈ ps) := by
  rw [Bool.eq_iff_iff, List.any_eq_true, decide_eq_true_eq]
  constructor
  · rintro ⟨z, hz, e⟩
    obtain ⟨p, hp, rfl⟩ := List.mem_map.mp hz
    rw [eqv_pair, decide_eq_true_eq] at e
    rw [← e]
    exact hp
  · intro h
    exact ⟨_, List.mem_map_of_mem h, by rw [eqv_pair, decide_eq_true_eq]⟩
/-- unlike classes not on one line that some class has both -/
def Rival (ks : List (List Nat)) (a b : Nat) : Prop := a < b ∧ b < ks.length ∧ a ∉ ks.getD b [] ∧ ∃ c, c < ks.length ∧ a ∈ ks.getD c [] ∧ b ∈ ks.getD c []
section
variable {P : Program} {w : World} {K : PySem.W.Frag} {mg : Str → Option Value} {base : Heap} {f fK fT fM fPa : Addr} {fd fdK fdT fdM fdPa : FuncData}
def spPairs : Sp := fun vs H Q _ => ∃ (l : Addr) (us : List V) (ds : List Ent), vs = [.ref l] ∧ H l = some (.lst us) ∧ RwN l H us ds ∧ DsOk ds ∧ ds.length ≤ 12 ∧
  ∀ H' R ws ps, Same H H' → H R = none → H' R = some (.lst ws) → PairsAt H' ws ps → ps.length ≤ 1000 → (∀ a b, (a, b) ∈ ps ↔ Rival (kins (elsOf ds)) a b) → Q (.ref R) H'
theorem sc_pairs : FnScope ["_law_rows", "_law_kin_here", "_law_found", "_law_a", "_law_b", "_law_c"] ["_law_rows"] (defScope (top 47)) := ⟨rfl, rfl, rfl, by decide +kernel, rfl, by decide +kernel, by decide +kernel⟩
theorem ok_pairs (F : FnP K "_law_pairs" 47 f fd) (B : Fr mg) (FK : FnP K "_law_kin" 46 fK fdK) (mK : mg "_law_kin" = some (.ref fK)) (GK : FnOk P w K mg base CX0 2 fK fdK ["_law_rows"] spKin) :
    FnOk P w K mg base CX0 3 f fd ["_law_rows"] spPairs := by
  have bK : L2.Binds K fdK ["_law_rows"] [] := FK.bindsN fun _ _ _ _ _ _ us hl => match us, hl with | [_], _ => rfl
  refine F.ok sc_pairs (fun vs H Q E h => ?_) (fun cdv A outer s H vs Q E hr h => ?_)
  · obtain ⟨l, us, ds, rfl, _⟩ := h
    rfl
  · obtain ⟨l, us, ds, rfl, hl, hR, ok, h12, k⟩ := h
    refine ⟨_, PSs.nox (pss_cons (ps_set (i := 1) sc_pairs.nd rfl (Or.inr rfl) (pe_call GK hr (by rfl) mK FK.kp bK .nil pass0 (pa_cons (pv 0) pa_nil)))
      (pss_cons (ps_set (i := 2) sc_pairs.nd rfl (Or.inl rfl) (pe_lst pa_nil))
      (pss_cons (ps_for PassesOwn.never rfl (pi_range1 (by rfl) B.range (pa_cons (pe_callB call_len_seq (by rfl) B.len PySem.boot_len (pa_cons (pv 0) pa_nil)) pa_nil)) (pg_name (i := 3) sc_pairs.nd rfl (Or.inr rfl))
        (pss_one (ps_for PassesOwn.never rfl (pi_range2 (by rfl) B.range (pa_cons (pe_op op_add (pv 3) pe_int) (pa_cons (pe_callB call_len_seq (by rfl) B.len PySem.boot_len (pa_cons (pv 0) pa_nil)) pa_nil))) (pg_name (i := 4) sc_pairs.nd rfl (Or.inr rfl))
          (pss_one (ps_if (PW.pt (pw_and (pt_cmpR (r := rIn K true) op_notIn_seq (pv 3) (pe_ix (r := rIxL K) ix_list (pv 1) (pv 4) (fun _ _ => rfl)) (by rfl)) (pw_and1 (pt_truth
              (pe_lc (own := [("_law_c", 5)]) (g := gName 5) (tt := tAnd (tTest (tOp (rIn K false) (tVar 3) (tOp (rIxL K) (tVar 1) (tVar 5)))) (tTest (tOp (rIn K false) (tVar 4) (tOp (rIxL K) (tVar 1) (tVar 5))))) rfl sc_pairs.nd (pi_range1 (by rfl) B.range (pa_cons (pe_callB call_len_seq (by rfl) B.len PySem.boot_len (pa_cons (pv 0) pa_nil)) pa_nil)) (blkOk_by (N := ["_law_rows", "_law_kin_here", "_law_found", "_law_a", "_law_b", "_law_c"]) (sc := defScope (top 47)) (by decide +kernel))
                (fun _ _ _ _ _ => pg_name (i := 5) sc_pairs.nd rfl (Or.inl rfl)) (fun _ _ _ _ _ => ?tt) (fun _ _ _ _ _ => pv 5)) (by intro _; rfl)))))
            (pss_one (ps_expr (pe_bm PySem.F.plainAttrs_list PySem.F.slot_list_append PySem.F.type_list_append mt_append (pv 2) (pa_cons (pe_tup (pa_cons (pv 3) (pa_cons (pv 4) pa_nil))) pa_nil)))) pss_nil)))))
      (pss_one (ps_ret (pv 2)))))), ?_⟩
    case tt => exact pts_one (PW.pt (pw_and (pt_cmpR (r := rIn K false) op_in_seq (pv 3) (pe_ix (r := rIxL K) ix_list (pv 1) (pv 5) (fun _ _ => rfl)) (by rfl)) (pw_and1 (pt_cmpR (r := rIn K false) op_in_seq (pv 4) (pe_ix (r := rIxL K) ix_list (pv 1) (pv 5) (fun _ _ => rfl)) (by rfl)))))
    have usl : us.length = ds.length := hR.len
    refine ⟨_, rfl, l, us, ds.map (·.1), rfl, hl, hR.rows, ok.valid, by rw [List.length_map]; exact h12, fun row hr => by have := ok.short row hr; omega, fun H1 ak kus s1 hak hak1 hne hL => ?_⟩
    have kok : KinsOk (kins (elsOf ds)) := ok.kins
    have kl : (kins (elsOf ds)).length = ds.length := kinsL
    have hL : ListsAt H1 kus (kins (elsOf ds)) := hL
    generalize hks : kins (elsOf ds) = ks at hL kok kl k
    have krow : ∀ {c}, c < ds.length → ∃ row t, ks[c]? = some row ∧ ks.getD c [] = row ∧ kus[c]? = some (.ref t) ∧ H1 t = some (.lst (row.map natV)) := fun {c} hc => by
      obtain ⟨row, hrow⟩ : ∃ row, ks[c]? = some row := ⟨_, List.getElem?_eq_getElem (by omega)⟩
      obtain ⟨t, et, ht⟩ := hL.get hrow
      exact ⟨row, t, hrow, by rw [List.getD_eq_getElem?_getD, hrow]; rfl, et, ht⟩
    refine ⟨by decide, fun R hRn => ?_⟩
    have sR := same_new (o := .lst []) hRn
    have hR0 : H R = none := by
      cases e : H R with
      | none => rfl
      | some o =>
        rw [s1 _ _ e] at hRn
        cases hRn
    refine ⟨_, rfl, l, us, rfl, .inl (SqL.of (sR _ _ (s1 _ _ hl))), _, rfl, by omega, by omega, ?_⟩
    refine for_range (n := us.length) (fun i σ H' => Same H1 H' ∧ (∃ x3 x4 x5, σ = [some (.ref l), some (.ref ak), some (.ref R), x3, x4, x5]) ∧ ∃ ws ps, H' R = some (.lst ws) ∧ PairsAt H' ws ps ∧ ps.length ≤ 12 * i ∧ ∀ a b, (a, b) ∈ ps ↔ Rival ks a b ∧ a < i)
      ⟨sR, ⟨_, _, _, rfl⟩, [], [], upd_same, .nil, Nat.le_refl _, fun a b => ⟨(fun h => by cases h), fun h => absurd h.2 (Nat.not_lt_zero _)⟩⟩ ?_ ?_
    · rintro i σ H' hi ⟨sH, ⟨x3, x4, x5, rfl⟩, ws, ps, hRw, hP, hpl, hps⟩
      have ei : (0 : Int) + (i : Int) = (i : Int) := by omega
      rw [ei]
      have hl' := sH _ _ (s1 _ _ hl)
      refine ⟨_, rfl, _, _, rfl, rfl, _, rfl, l, us, rfl, .inl (SqL.of hl'), _, _, rfl, ⟨by omega, by omega, by omega, by omega⟩, ?_⟩
      refine for_range (lo := (i : Int) + 1) (n := (((us.length : Nat) : Int) - ((i : Int) + 1)).toNat) (fun j σ H' => Same H1 H' ∧ (∃ x4 x5, σ = [some (.ref l), some (.ref ak), some (.ref R), some (natV i), x4, x5]) ∧ ∃ ws ps, H' R = some (.lst ws) ∧ PairsAt H' ws ps ∧ ps.length ≤ 12 * i + j ∧ ∀ a b, (a, b) ∈ ps ↔ Rival ks a b ∧ (a < i ∨ (a = i ∧ b < i + 1 + j)))
        ⟨sH, ⟨_, _, rfl⟩, ws, ps, hRw, hP, hpl, fun a b => ?_⟩ ?_ ?_
      · rw [hps]
        refine and_congr_right fun hr => ⟨.inl, fun h => h.elim id fun h => ?_⟩
        have := hr.1
        omega
      · rintro j σ H2 hj ⟨s2, ⟨x4, x5, rfl⟩, ws, ps, hRw, hP, hpl, hps⟩
        obtain ⟨b, eb, bn⟩ : ∃ b : Nat, (i : Int) + 1 + (j : Int) = (b : Int) ∧ b = i + 1 + j := ⟨i + 1 + j, by omega, rfl⟩
        rw [eb]
        have hbn : b < ds.length := by omega
        have hin : i < ds.length := by omega
        obtain ⟨rb, tb, _, gb, etb, htb⟩ := krow hbn
        have next : ∀ H3 x5, Same H1 H3 → ∀ ws ps, H3 R = some (.lst ws) → PairsAt H3 ws ps → ps.length ≤ 12 * i + (j + 1) → (∀ a b', (a, b') ∈ ps ↔ Rival ks a b' ∧ (a < i ∨ (a = i ∧ b' < i + 1 + (j + 1)))) → Same H1 H3 ∧ (∃ x4 x5', ([some (.ref l), some (.ref ak), some (.ref R), some (natV i), some (natV b), x5] : L2.St) = [some (.ref l), some (.ref ak), some (.ref R), some (natV i), x4, x5']) ∧ ∃ ws ps, H3 R = some (.lst ws) ∧ PairsAt H3 ws ps ∧ ps.length ≤ 12 * i + (j + 1) ∧ ∀ a b', (a, b') ∈ ps ↔ Rival ks a b' ∧ (a < i ∨ (a = i ∧ b' < i + 1 + (j + 1))) := fun H3 x5 s3 ws ps h1 h2 h3 h4 => ⟨s3, ⟨_, _, rfl⟩, ws, ps, h1, h2, h3, h4⟩
        have skip : ¬ Rival ks i b → ∀ a b', (a, b') ∈ ps ↔ Rival ks a b' ∧ (a < i ∨ (a = i ∧ b' < i + 1 + (j + 1))) := fun hno a b' => by
          rw [hps]
          refine and_congr_right fun hr => ⟨fun h => h.imp id fun h => ⟨h.1, by omega⟩, fun h => h.imp id fun h => ⟨h.1, ?_⟩⟩
          apply Classical.byContradiction
          intro z
          have : b' = b := by omega
          rw [h.1, this] at hr
          exact hno hr
        have hak2 := s2 _ _ hak1
        refine ⟨_, rfl, _, rfl, _, rfl, ak, kus, (b : Int), _, rfl, rfl, SqL.of hak2, atI_nat etb, tb, _, rfl, .inl (SqL.of (s2 _ _ htb)), rfl, flat_nats rb, _, rfl, ?_⟩
        have ein : inV (natV i) (rb.map natV) = rb.contains i := inV_nat i rb
        show (if (!inV (natV i) (rb.map natV)) = true then _ else _)
        rw [ein]
        cases c1 : rb.contains i with
        | true =>
          refine iteF' rfl (next H2 _ s2 ws ps hRw hP (by omega) (skip fun hr => ?_))
          exact hr.2.2.1 (by rw [gb]; exact List.contains_iff_mem.mp c1)
        | false =>
          refine iteT' rfl ⟨_, rfl, l, us, rfl, .inl (SqL.of (s2 _ _ (s1 _ _ hl))), _, rfl, by omega, by omega, fun D hD => lc_range (n := us.length) (fun c H3 => Same H2 H3 ∧ H3 D = some (.lst (((List.range c).filter fun c => (ks.getD c []).contains i && (ks.getD c []).contains b).map natV))) ⟨same_new hD, upd_same⟩ ?_ ?_⟩
          · rintro c H3 hc ⟨s3, hD3⟩
            have ec : (0 : Int) + (c : Int) = (c : Int) := by omega
            rw [ec]
            obtain ⟨rc, tc, _, gc, etc, htc⟩ := krow (c := c) (by omega)
            have hak3 := s3 _ _ hak2
            have htc3 := s3 _ _ (s2 _ _ htc)
            have step : ((List.range (c + 1)).filter fun c => (ks.getD c []).contains i && (ks.getD c []).contains b) = ((List.range c).filter fun c => (ks.getD c []).contains i && (ks.getD c []).contains b) ++ (if (rc.contains i && rc.contains b) = true then [c] else []) := by
              rw [List.range_succ, List.filter_append]
              congr 1
              cases e : rc.contains i && rc.contains b with
              | true => rw [List.filter_cons_of_pos (by show ((ks.getD c []).contains i && (ks.getD c []).contains b) = true; rw [gc]; exact e)]; rfl
              | false => rw [List.filter_cons_of_neg (by show ¬ ((ks.getD c []).contains i && (ks.getD c []).contains b) = true; rw [gc, e]; decide)]; rfl
            have lenD : (((List.range c).filter fun c => (ks.getD c []).contains i && (ks.getD c []).contains b).map natV).length < sizeLine := by
              rw [List.length_map]
              refine Nat.lt_of_le_of_lt (List.length_filter_le _ _) ?_
              rw [List.length_range]
              show _ < 2 ^ 24
              omega
            refine ⟨rfl, _, rfl, _, rfl, _, rfl, ak, kus, (c : Int), _, rfl, rfl, SqL.of hak3, atI_nat etc, tc, _, rfl, .inl (SqL.of htc3), rfl, flat_nats rc, _, rfl, ?_⟩
            have e1 : inV (natV i) (rc.map natV) = rc.contains i := inV_nat i rc
            show (if inV (natV i) (rc.map natV) = true then _ else _)
            rw [e1]
            cases c2 : rc.contains i with
            | false =>
              rw [c2, Bool.false_and, if_neg (by decide), List.append_nil] at step
              exact iteF' rfl (iteF' rfl ⟨s3, by rw [step]; exact hD3⟩)
            | true =>
              rw [c2, Bool.true_and] at step
              refine iteT' rfl ⟨_, rfl, _, rfl, _, rfl, ak, kus, (c : Int), _, rfl, rfl, SqL.of hak3, atI_nat etc, tc, _, rfl, .inl (SqL.of htc3), rfl, flat_nats rc, _, rfl, ?_⟩
              have e2 : inV (natV b) (rc.map natV) = rc.contains b := inV_nat b rc
              show (if inV (natV b) (rc.map natV) = true then _ else _)
              rw [e2]
              cases c3 : rc.contains b with
              | true =>
                rw [c3, if_pos rfl] at step
                exact iteT' rfl ⟨_, rfl, _, hD3, lenD, same_upd s3 hD, by rw [step, List.map_append, upd_same]; rfl⟩
              | false =>
                rw [c3, if_neg (by decide), List.append_nil] at step
                exact iteF' rfl ⟨s3, by rw [step]; exact hD3⟩
          · rintro H3 ⟨s3, hD3⟩
            rw [usl] at hD3
            have riv : ((((List.range ds.length).filter fun c => (ks.getD c []).contains i && (ks.getD c []).contains b).map natV).isEmpty = false) ↔ Rival ks i b := by
              constructor
              · intro h
                have nn : ((List.range ds.length).filter fun c => (ks.getD c []).contains i && (ks.getD c []).contains b) ≠ [] := fun z => by
                  rw [z] at h
                  cases h
                obtain ⟨c, hc⟩ := List.exists_mem_of_ne_nil _ nn
                rw [List.mem_filter, List.mem_range, Bool.and_eq_true, List.contains_iff_mem, List.contains_iff_mem] at hc
                refine ⟨by omega, by omega, fun z => ?_, c, by omega, hc.2.1, hc.2.2⟩
                rw [gb] at z
                rw [List.contains_iff_mem.mpr z] at c1
                cases c1
              · rintro ⟨_, _, _, c, hc, h1, h2⟩
                have hm : c ∈ ((List.range ds.length).filter fun c => (ks.getD c []).contains i && (ks.getD c []).contains b) := by
                  rw [List.mem_filter, List.mem_range, Bool.and_eq_true, List.contains_iff_mem, List.contains_iff_mem]
                  exact ⟨by omega, h1, h2⟩
                cases e : ((List.range ds.length).filter fun c => (ks.getD c []).contains i && (ks.getD c []).contains b) with
                | nil =>
                  rw [e] at hm
                  cases hm
                | cons x r => rfl
            refine ⟨_, .inl ⟨_, SqL.of hD3, rfl⟩, ?_⟩
            have s13 := s2.trans s3
            cases c4 : (((List.range ds.length).filter fun c => (ks.getD c []).contains i && (ks.getD c []).contains b).map natV).isEmpty with
            | true => exact iteF' rfl (next H3 _ s13 ws ps (s3 _ _ hRw) (hP.same s3) (by omega) (skip fun hr => by rw [riv.mpr hr] at c4; cases c4))
            | false =>
              have hr := riv.mp c4
              refine iteT' rfl ⟨_, rfl, .inl ⟨rfl, _, SqL.of (s3 _ _ hRw)⟩, _, rfl, _, rfl, (by show 2 ≤ sizeLine; decide), fun T hT => ⟨R, ws, _, rfl, rfl, same_new hT _ _ (s3 _ _ hRw), ?_, ?_⟩⟩
              · rw [hP.len]
                show _ < 2 ^ 24
                omega
              · have sT := same_new (o := .tup [natV i, natV b]) hT
                have TR : T ≠ R := fun z => by
                  rw [z, s3 _ _ hRw] at hT
                  cases hT
                have rR := sT _ _ (s3 _ _ hRw)
                refine next _ _ (same_upd (s13.trans sT) hRn) (ws ++ [.ref T]) (ps ++ [(i, b)]) upd_same ?_ (by rw [List.length_append, List.length_singleton]; omega) fun a b' => ?_
                · exact (PairsAt.keep rR (Oth.upd (Oth.of (Same.refl _))) ((hP.same s3).same sT)).app (.cons ⟨T, rfl, upB TR upd_same⟩ .nil)
                · rw [List.mem_append, List.mem_singleton, hps]
                  constructor
                  · rintro (h | h)
                    · exact ⟨h.1, h.2.imp id fun z => ⟨z.1, by omega⟩⟩
                    · cases h
                      exact ⟨hr, .inr ⟨rfl, by omega⟩⟩
                  · rintro ⟨h1, h2⟩
                    by_cases q : a = i ∧ b' = b
                    · right
                      rw [q.1, q.2]
                    · left
                      refine ⟨h1, h2.imp id fun z => ⟨z.1, ?_⟩⟩
                      have : b' ≠ b := fun y => q ⟨z.1, y⟩
                      omega
      · rintro σ H2 ⟨s2, ⟨x4, x5, rfl⟩, ws, ps, hRw, hP, hpl, hps⟩
        refine ⟨s2, ⟨_, _, _, rfl⟩, ws, ps, hRw, hP, by omega, fun a b => ?_⟩
        rw [hps]
        refine and_congr_right fun hr => ⟨fun h => by omega, fun h => ?_⟩
        have := hr.2.1
        by_cases q : a < i
        · exact .inl q
        · exact .inr ⟨by omega, by omega⟩
    · rintro σ H' ⟨sH, ⟨x3, x4, x5, rfl⟩, ws, ps, hRw, hP, hpl, hps⟩
      refine ⟨_, rfl, k H' R ws ps (s1.trans sH) hR0 hRw hP (by omega) fun a b => ?_⟩
      rw [hps]
      exact ⟨fun h => h.1, fun h => ⟨h, by have h1 := h.1; have h2 := h.2.1; omega⟩⟩
end
end K15

set_option maxRecDepth 100000
set_option maxHeartbeats 8000000
namespace K15
open PySem PySem.Spec PyProof.Rows L2 Kw
theorem room65 {k : Nat} {A : Around} (r : Room k A) : A.units + 65 < cLine := by
  have := r.un
  omega
theorem inV_hue (c : Nat) : ∀ l : List (Option Nat), inV (natV c) (l.map hV) = decide (some c ∈ l)
  | [] => rfl
  | x :: r => by
    unfold inV
    rw [List.map_cons, List.any_cons]
    have ih := inV_hue c r
    unfold inV at ih
    rw [ih]
    have e : eqV (hV x) (natV c) = decide (x = some c) := by
      cases x with
      | none => rfl
      | some y =>
        show ((y : Int) == (c : Int)) = decide (some y = some c)
        rw [Bool.eq_iff_iff, beq_iff_eq, decide_eq_true_eq]
        exact ⟨fun h => by rw [show y = c by omega], fun h => by rw [Option.some.inj h]⟩
    rw [e, Bool.eq_iff_iff, Bool.or_eq_true, decide_eq_true_eq, decide_eq_true_eq, decide_eq_true_eq, List.mem_cons]
    exact ⟨fun h => h.imp (fun z => z.symm) id, fun h => h.imp (fun z => z.symm) id⟩
theorem flat_hues : ∀ l : List (Option Nat), (l.map hV).all flatV = true
  | [] => rfl
  | x :: r => by
    rw [List.map_cons, List.all_cons, flat_hues r]
    cases x <;> rfl
theorem nodup_sub_len'' {α : Type} [DecidableEq α] {ks ns : List α} (hn : ks.Nodup) (hs : ∀ k ∈ ks, k ∈ ns) : ks.length ≤ ns.length := Kw.nodup_sub_len hn hs
/-- hues so far: no rival below has the same one -/
def GoodH (ks : List (List Nat)) (hs : List (Option Nat)) : Prop := ∀ a b h, b < hs.length → Rival ks a b → hueOf hs b = some h → hueOf hs a ≠ some h
theorem good_first {ks : List (List Nat)} (ok : KinsOk ks) {hs : List (Option Nat)} (hl : hs.length = ks.length) (g : GoodH ks hs) : FirstC ks hs none := by
  refine .inl ⟨rfl, fun c hc => .inl ⟨rfl, fun a ha b hb => ?_⟩⟩
  cases e : condL ks hs a b with
  | false => rfl
  | true =>
    obtain ⟨lt, sa, he, no⟩ := condL_iff.mp e
    have bc := ok.le c hc b hb
    obtain ⟨h, hh⟩ := Option.isSome_iff_exists.mp sa
    exact absurd hh (g a b h (by omega) ⟨lt, by omega, no, c, hc, ha, hb⟩ (by rw [← he]; exact hh))
theorem GoodH.more {ks : List (List Nat)} {hs : List (Option Nat)} {o : Option Nat} (g : GoodH ks hs) (h : ∀ a h, Rival ks a hs.length → o = some h → hueOf hs a ≠ some h) : GoodH ks (hs ++ [o]) := fun a b x hb hr e => by
  rw [List.length_append, List.length_singleton] at hb
  have ab := hr.1
  rw [hue_app (by omega)]
  by_cases q : b < hs.length
  · rw [hue_app q] at e
    exact g a b x q hr e
  · obtain rfl : b = hs.length := by omega
    refine h a x hr ?_
    unfold hueOf at e
    rw [List.getD_eq_getElem?_getD, List.getElem?_append_right (Nat.le_refl _), Nat.sub_self] at e
    exact e
section
variable {P : Program} {w : World} {K : PySem.W.Frag} {mg : Str → Option Value} {base : Heap} {f fK fT fM fPa : Addr} {fd fdK fdT fdM fdPa : FuncData}
def spRHues : Sp := fun vs H Q _ => ∃ (p q l : Addr) (us : List V) (ds : List Ent), vs = [.ref p, .ref l] ∧ HandAt H p q ∧ l ≠ p ∧ H l = some (.lst us) ∧ RwN l H us ds ∧ DsOk ds ∧ ds.length ≤ 8 ∧
  ∀ R H' hs, Oth p H H' → HandAt H' p q → H R = none → H' R = some (.lst (hs.map hV)) → hs.length = ds.length → (∀ o ∈ hs, ∀ h, o = some h → h < 8) → FirstC (kins (elsOf ds)) hs none → Q (.ref R) H'
theorem sc_rhues : FnScope ["_law_hand_here", "_law_rows", "_law_pairs_here", "_law_hues", "_law_c", "_law_start", "_law_near", "_law_a", "_law_free", "_law_step"] ["_law_hand_here", "_law_rows"] (defScope (top 50)) := ⟨rfl, rfl, rfl, by decide +kernel, rfl, by decide +kernel, by decide +kernel⟩
theorem ok_rhues (F : FnP K "_law_right_hues" 50 f fd) (B : Fr mg) (FT : FnP K "_law_take" 37 fT fdT) (mT : mg "_law_take" = some (.ref fT)) (GT : FnOk P w K mg base CX0 2 fT fdT ["_law_hand_here", "_law_many"] spTake)
    (FPa : FnP K "_law_pairs" 47 fPa fdPa) (mPa : mg "_law_pairs" = some (.ref fPa)) (GPa : FnOk P w K mg base CX0 3 fPa fdPa ["_law_rows"] spPairs) :
    FnOk P w K mg base CX0 4 f fd ["_law_hand_here", "_law_rows"] spRHues := by
  have bT : L2.Binds K fdT ["_law_hand_here", "_law_many"] [] := FT.bindsN fun _ _ _ _ _ _ us hl => match us, hl with | [_, _], _ => rfl
  have bPa : L2.Binds K fdPa ["_law_rows"] [] := FPa.bindsN fun _ _ _ _ _ _ us hl => match us, hl with | [_], _ => rfl
  refine F.ok sc_rhues (fun vs H Q E h => ?_) (fun cdv A outer s H vs Q E hr h => ?_)
  · obtain ⟨p, q, l, us, ds, rfl, _⟩ := h
    rfl
  · obtain ⟨p, q, l, us, ds, rfl, hh, lp, hl, hR, ok, h8, k⟩ := h
    refine ⟨_, PSs.nox (pss_cons (ps_set (i := 2) sc_rhues.nd rfl (Or.inr rfl) (pe_call GPa hr (by rfl) mPa FPa.kp bPa .nil pass0 (pa_cons (pv 1) pa_nil)))
      (pss_cons (ps_set (i := 3) sc_rhues.nd rfl (Or.inr rfl) (pe_lst pa_nil))
      (pss_cons (ps_for PassesOwn.never rfl (pi_range1 (by rfl) B.range (pa_cons (pe_callB call_len_seq (by rfl) B.len PySem.boot_len (pa_cons (pv 1) pa_nil)) pa_nil)) (pg_name (i := 4) sc_rhues.nd rfl (Or.inr rfl))
        (pss_one (ps_if (pt_cmpR op_eq (pe_call GT (hr.mono (by decide)) (by rfl) mT FT.kp bT .nil pass0 (pa_cons (pv 0) (pa_cons pe_int pa_nil))) pe_int (nomark _))
          (pss_one (ps_expr (pe_bm PySem.F.plainAttrs_list PySem.F.slot_list_append PySem.F.type_list_append mt_append (pv 3) (pa_cons pe_non pa_nil))))
          (pss_cons (ps_set (i := 5) sc_rhues.nd rfl (Or.inr rfl) (pe_call GT (hr.mono (by decide)) (by rfl) mT FT.kp bT .nil pass0 (pa_cons (pv 0) (pa_cons (pe_ix (r := rIxT K) ix_tup (pe_tup (pa_cons pe_int (pa_cons pe_int (pa_cons pe_int (pa_cons pe_int pa_nil))))) (pe_call GT (hr.mono (by decide)) (by rfl) mT FT.kp bT .nil pass0 (pa_cons (pv 0) (pa_cons pe_int pa_nil))) (fun _ _ => rfl)) pa_nil))))
          (pss_cons (ps_set (i := 6) sc_rhues.nd rfl (Or.inr rfl) (pe_lc (own := [("_law_a", 7)]) (g := gName 7) (tt := tTest (tOp (rInD K) (tTup (tCons (tVar 7) (tCons (tVar 4) tNil))) (tVar 2))) (te := tOp (rIxL K) (tVar 3) (tVar 7)) rfl sc_rhues.nd (pi_range1 (by rfl) B.range (pa_cons (pv 4) pa_nil)) (blkOk_by (N := ["_law_hand_here", "_law_rows", "_law_pairs_here", "_law_hues", "_law_c", "_law_start", "_law_near", "_law_a", "_law_free", "_law_step"]) (sc := defScope (top 50)) (by decide +kernel))
              (fun _ _ _ _ _ => pg_name (i := 7) sc_rhues.nd rfl (Or.inl rfl)) (fun _ _ _ _ _ => ?tt1) (fun _ _ _ _ _ => ?te1)))
          (pss_cons (ps_setLc (i := 8) (own := [("_law_step", 9)]) (g := gName 9) rfl sc_rhues.nd rfl rfl (sw_true rfl rfl rfl (by decide +kernel)) (pi_range1 (by rfl) B.range (pa_cons pe_int pa_nil)) (blkOk_by (N := ["_law_hand_here", "_law_rows", "_law_pairs_here", "_law_hues", "_law_c", "_law_start", "_law_near", "_law_a", "_law_free", "_law_step"]) (sc := defScope (top 50)) (by decide +kernel))
              (fun _ _ _ _ _ => pg_name (i := 9) sc_rhues.nd rfl (Or.inl rfl))
              (fun _ _ _ _ _ => pts_one (pt_cmpR (r := rIn K true) op_notIn_seq (pe_op op_mod (pe_callTy call_int1 (by rfl) B.int PyProof.Rows.boot_int (pa_cons (pe_op op_add (pv 5) (pv 9)) pa_nil)) pe_int) (pv 6) (by rfl)))
              (fun _ _ _ _ _ => pe_op op_mod (pe_callTy call_int1 (by rfl) B.int PyProof.Rows.boot_int (pa_cons (pe_op op_add (pv 5) (pv 9)) pa_nil)) pe_int))
          (pss_one (ps_expr (pe_bm PySem.F.plainAttrs_list PySem.F.slot_list_append PySem.F.type_list_append mt_append (pv 3) (pa_cons (pe_ix (r := rIxL K) ix_list (pv 8) pe_int (fun _ _ => rfl)) pa_nil))))))))))
      (pss_one (ps_ret (pv 3)))))), ?_⟩
    case tt1 => exact pts_one (pt_cmpR (r := rInD K) (op_inD (room65 hr)) (pe_tup (pa_cons (pv 7) (pa_cons (pv 4) pa_nil))) (pv 2) (by rfl))
    case te1 => exact pe_ix (r := rIxL K) ix_list (pv 3) (pv 7) (fun _ _ => rfl)
    have usl : us.length = ds.length := hR.len
    refine ⟨_, rfl, l, us, ds, rfl, hl, hR, ok, by omega, fun H1 pr ws ps s1 hpr hpr1 hP hpl hps => ?_⟩
    have kok : KinsOk (kins (elsOf ds)) := ok.kins
    have kl : (kins (elsOf ds)).length = ds.length := kinsL
    generalize hks : kins (elsOf ds) = ks at kok kl k hps
    refine ⟨by decide, fun R hRn => ?_⟩
    have sR := same_new (o := .lst []) hRn
    have hh1 := hh.same s1
    obtain ⟨Rp, Rq⟩ := hh1.ne hRn
    have hR0 : H R = none := by
      cases e : H R with
      | none => rfl
      | some o =>
        rw [s1 _ _ e] at hRn
        cases hRn
    have prp : pr ≠ p := (hh.ne hpr).1
    have hPk : ∀ {H'}, Oth p H1 H' → PairsAt H' ws ps := fun {H'} O => by
      have z : ∀ {ws : List V} {ps : List (Nat × Nat)}, PairsAt H1 ws ps → PairsAt H' ws ps := fun h => by
        induction h with
        | nil => exact .nil
        | cons z _ ih =>
          obtain ⟨t, e, ht⟩ := z
          refine .cons ⟨t, e, O _ _ (fun y => ?_) ht⟩ ih
          obtain ⟨cs, i1, r, tt, h1, _⟩ := hh1
          rw [y, h1] at ht
          cases ht
      exact z hP
    refine ⟨_, rfl, l, us, rfl, .inl (SqL.of (sR _ _ (s1 _ _ hl))), _, rfl, by omega, by omega, ?_⟩
    refine for_range (n := us.length) (fun i σ H' => (∃ x4 x5 x6 x7 x8 x9, σ = [some (.ref p), some (.ref l), some (.ref pr), some (.ref R), x4, x5, x6, x7, x8, x9]) ∧ Oth p H1 H' ∧ HandAt H' p q ∧ ∃ hs, H' R = some (.lst (hs.map hV)) ∧ hs.length = i ∧ (∀ o ∈ hs, ∀ h, o = some h → h < 8) ∧ GoodH ks hs)
      ⟨⟨_, _, _, _, _, _, rfl⟩, Oth.of sR, hh1.same sR, [], upd_same, rfl, (fun o ho => by cases ho), fun a b h hb => absurd hb (Nat.not_lt_zero _)⟩ ?_ ?_
    · rintro i σ H2 hi ⟨⟨x4, x5, x6, x7, x8, x9, rfl⟩, O2, h2, hs, hR2, hsl, hs8, good⟩
      have ei : (0 : Int) + (i : Int) = (i : Int) := by omega
      rw [ei]
      have i7 : i ≤ 7 := by omega
      -- one hue more, at the end of the list
      have fin : ∀ (o : Option Nat) (H3 : Hp) (x4 x5 x6 x7 x8 x9 : Option V), Oth p H1 H3 → HandAt H3 p q → H3 R = some (.lst (hs.map hV)) → (∀ h, o = some h → h < 8) → (∀ a h, Rival ks a hs.length → o = some h → hueOf hs a ≠ some h) →
          ∃ l2 xs, R = l2 ∧ (.lst xs : HO) = .lst (hs.map hV) ∧ ((∃ x4' x5' x6' x7' x8' x9', ([some (.ref p), some (.ref l), some (.ref pr), some (.ref R), x4, x5, x6, x7, x8, x9] : L2.St) = [some (.ref p), some (.ref l), some (.ref pr), some (.ref R), x4', x5', x6', x7', x8', x9']) ∧ Oth p H1 (upd H3 R (.lst (hs.map hV ++ [hV o]))) ∧ HandAt (upd H3 R (.lst (hs.map hV ++ [hV o]))) p q ∧ ∃ hs', upd H3 R (.lst (hs.map hV ++ [hV o])) R = some (.lst (hs'.map hV)) ∧ hs'.length = i + 1 ∧ (∀ o ∈ hs', ∀ h, o = some h → h < 8) ∧ GoodH ks hs') := fun o H3 x4 x5 x6 x7 x8 x9 O3 h3 hR3 ho hg => by
        refine ⟨R, _, rfl, rfl, ⟨_, _, _, _, _, _, rfl⟩, O3.updN hRn, h3.upd Rp Rq, hs ++ [o], ?_, by rw [List.length_append, hsl]; rfl, fun o' ho' => ?_, good.more hg⟩
        · rw [upd_same, List.map_append]
          rfl
        · rcases List.mem_append.mp ho' with ho' | ho'
          · exact hs8 o' ho'
          · rw [List.mem_singleton.mp ho']
            exact ho
      have small : (hs.map hV).length < 2 ^ 24 := by
        rw [List.length_map, hsl]
        omega
      refine ⟨_, rfl, p, q, 6, rfl, by decide, by decide, h2, fun r0 H3 _ _ h3 e3 => ⟨rfl, _, rfl, ?_⟩⟩
      have O3 := O2.trans (Oth.take e3)
      have hR3 : H3 R = some (.lst (hs.map hV)) := by
        rw [e3 R Rp]
        exact hR2
      refine ite2 (fun _ => ?_) (fun _ => ?_)
      · obtain ⟨_, _, _, _, z⟩ := fin none H3 (some (natV i)) x5 x6 x7 x8 x9 O3 h3 hR3 (fun h e => by cases e) (fun a h _ e => by cases e)
        exact ⟨_, rfl, .inl ⟨rfl, _, SqL.of hR3⟩, R, _, _, rfl, rfl, hR3, small, z⟩
      · refine ⟨_, rfl, (by show 4 ≤ sizeLine; decide), fun t ht => ?_⟩
        obtain ⟨tp, tq⟩ := h3.ne ht
        have st := same_new (o := .tup (([2, 2, 3, 8] : List Int).map V.int)) ht
        refine ⟨_, rfl, p, q, 4, rfl, by decide, by decide, h3.upd tp tq, fun r1 H4 r10 r11 h4 e4 => ?_⟩
        obtain ⟨v, hv, hm⟩ := tab_at (tab := [2, 2, 3, 8]) r10 r11
        have T4 : H4 t = some (.tup (([2, 2, 3, 8] : List Int).map V.int)) := by
          rw [e4 t tp]
          exact upd_same
        have hv8 : 2 ≤ v ∧ v ≤ 8 := (by decide : ∀ v ∈ ([2, 2, 3, 8] : List Int), 2 ≤ v ∧ v ≤ 8) v hm
        refine ⟨t, _, r1, _, rfl, rfl, SqT.of T4, hv, p, q, v, rfl, by omega, by omega, h4, fun st0 H5 st1 st2 h5 e5 => ?_⟩
        obtain ⟨start, rfl⟩ : ∃ n : Nat, st0 = (n : Int) := ⟨st0.toNat, by omega⟩
        have O5 : Oth p H1 H5 := ((O3.trans (Oth.of st)).trans (Oth.take e4)).trans (Oth.take e5)
        have hR5 : H5 R = some (.lst (hs.map hV)) := by
          rw [e5 R Rp, e4 R Rp]
          exact st _ _ hR3
        have hpr5 : H5 pr = some (.lst ws) := O5 _ _ prp hpr1
        clear T4 e4 e5 hv hm
        -- the hues near by
        refine ⟨_, rfl, _, rfl, by omega, by omega, fun D hD => lc_range (n := i) (fun a H6 => Same H5 H6 ∧ ∃ nl : List (Option Nat), H6 D = some (.lst (nl.map hV)) ∧ nl.length ≤ a ∧ ∀ a', a' < a → Rival ks a' i → hueOf hs a' ∈ nl) ⟨same_new hD, [], upd_same, Nat.le_refl _, fun a' z => absurd z (Nat.not_lt_zero _)⟩ ?_ ?_⟩
        · rintro a H6 ha ⟨s6, nl, hD6, nll, hnl⟩
          have ea : (0 : Int) + (a : Int) = (a : Int) := by omega
          rw [ea]
          refine ⟨rfl, _, rfl, _, rfl, (by show 2 ≤ sizeLine; decide), fun T hT => ?_⟩
          have sT := same_new (o := .tup [natV a, natV i]) hT
          have s6T := s6.trans sT
          refine ⟨_, rfl, dPair (a, i), ps.map dPair, .tup (SqT.of upd_same) (.cons (.int _) (.cons (.int _) .nil)), .lst (SqL.of (s6T _ _ hpr5)) (dp_pairs ((hPk O5).same s6T)), (lay_pair _).shaped (by decide), (lay_pairs _).shaped (by decide), _, rfl, ?_⟩
          rw [any_pair]
          by_cases q : (a, i) ∈ ps
          · refine iteT' (decide_eq_true q) ⟨_, rfl, _, rfl, R, _, _, _, rfl, rfl, SqL.of (s6T _ _ hR5), atI_nat (hue_at (by omega)), _, sT _ _ hD6, ?_, same_upd s6T hD, nl ++ [hueOf hs a], by rw [upd_same, List.map_append]; rfl, by rw [List.length_append, List.length_singleton]; omega, fun a' ha' hr' => ?_⟩
            · rw [List.length_map]
              show _ < 2 ^ 24
              omega
            · by_cases z : a' = a
              · rw [z]
                exact List.mem_append_right _ (List.mem_singleton.mpr rfl)
              · exact List.mem_append_left _ (hnl a' (by omega) hr')
          · refine iteF' (decide_eq_false q) ⟨s6T, nl, sT _ _ hD6, by omega, fun a' ha' hr' => ?_⟩
            by_cases z : a' = a
            · rw [z] at hr'
              exact absurd ((hps a i).mpr hr') q
            · exact hnl a' (by omega) hr'
        · rintro H6 ⟨s6, nl, hD6, nll, hnl⟩
          have O6 := O5.trans (Oth.of s6)
          have hR6 := s6 _ _ hR5
          have h6 := h5.same s6
          -- what is free
          refine ⟨_, rfl, by decide, by decide, fun F hF => lc_range (n := 8) (fun j H7 => Same H6 H7 ∧ ∃ fr : List Nat, H7 F = some (.lst (fr.map natV)) ∧ fr.length ≤ j ∧ (∀ f ∈ fr, f < 8 ∧ some f ∉ nl) ∧ ∀ s', s' < j → (start + s') % 8 ∈ fr ∨ some ((start + s') % 8) ∈ nl) ⟨same_new hF, [], upd_same, Nat.le_refl _, (fun f hf => by cases hf), fun s' z => absurd z (Nat.not_lt_zero _)⟩ ?_ ?_⟩
          · rintro j H7 hj ⟨s7, fr, hF7, frl, hfr, hall⟩
            have eres : ((start : Int) + ((0 : Int) + (j : Int))) % 8 = (((start + j) % 8 : Nat) : Int) := by omega
            refine ⟨rfl, _, rfl, _, rfl, _, _, rfl, rfl, .inl ⟨_, rfl, _, _, rfl, rfl, (by show (0 : Int) < 8; decide), _, rfl, D, _, rfl, .inl (SqL.of (s7 _ _ hD6)), rfl, flat_hues nl, _, rfl, ?_⟩⟩
            have ein : inV (V.int (((start : Int) + ((0 : Int) + (j : Int))) % 8)) (nl.map hV) = decide (some ((start + j) % 8) ∈ nl) := by
              rw [eres]
              exact inV_hue _ nl
            show (if (!inV (V.int (((start : Int) + ((0 : Int) + (j : Int))) % 8)) (nl.map hV)) = true then _ else _)
            rw [ein]
            by_cases q : some ((start + j) % 8) ∈ nl
            · refine iteF' (by rw [decide_eq_true q]; rfl) ⟨s7, fr, hF7, by omega, hfr, fun s' hs' => ?_⟩
              by_cases z : s' = j
              · rw [z]
                exact .inr q
              · exact hall s' (by omega)
            · refine iteT' (by rw [decide_eq_false q]; rfl) ⟨_, rfl, _, rfl, _, _, rfl, rfl, .inl ⟨_, rfl, _, _, rfl, rfl, (by show (0 : Int) < 8; decide), _, hF7, ?_, same_upd s7 hF, fr ++ [(start + j) % 8], ?_, by rw [List.length_append, List.length_singleton]; omega, fun f hf => ?_, fun s' hs' => ?_⟩⟩
              · rw [List.length_map]
                show _ < 2 ^ 24
                omega
              · rw [upd_same, List.map_append]
                show some (HO.lst (List.map natV fr ++ [V.int (((start : Int) + ((0 : Int) + (j : Int))) % 8)])) = _
                rw [eres]
                rfl
              · rcases List.mem_append.mp hf with hf | hf
                · exact hfr f hf
                · rw [List.mem_singleton.mp hf]
                  exact ⟨by omega, q⟩
              · by_cases z : s' = j
                · rw [z]
                  exact .inl (List.mem_append_right _ (List.mem_singleton.mpr rfl))
                · exact (hall s' (by omega)).imp (List.mem_append_left _) id
          · rintro H7 ⟨s7, fr, hF7, frl, hfr, hall⟩
            obtain ⟨f0, hf0⟩ : ∃ f0, fr[0]? = some f0 := by
              cases fr with
              | cons x r => exact ⟨x, rfl⟩
              | nil =>
                exfalso
                have z := nodup_sub_len'' (ks := (List.range 8).map fun s' => some ((start + s') % 8)) (ns := nl) (nodup_map List.nodup_range fun x hx y hy e => ?_) (fun o ho => ?_)
                · rw [List.length_map, List.length_range] at z
                  omega
                · rw [List.mem_range] at hx hy
                  have e := Option.some.inj e
                  omega
                · obtain ⟨s', hs', rfl⟩ := List.mem_map.mp ho
                  exact (hall s' (List.mem_range.mp hs')).resolve_left (fun z => by cases z)
            obtain ⟨f1, f2⟩ := hfr f0 (List.mem_of_getElem? hf0)
            have at0 : atI (fr.map natV) 0 = some (natV f0) := by
              have z : (fr.map natV)[0]? = some (natV f0) := by rw [List.getElem?_map, hf0]; rfl
              exact atI_nat z
            have hR7 := s7 _ _ hR6
            obtain ⟨_, _, _, _, z⟩ := fin (some f0) H7 (some (natV i)) (some (natV start)) (some (.ref D)) x7 (some (.ref F)) x9 (O6.trans (Oth.of s7)) (h6.same s7) hR7 (fun h e => by rw [← Option.some.inj e]; exact f1) (fun a h hr e ea => by
              rw [hsl] at hr
              obtain rfl := Option.some.inj e
              exact f2 (ea ▸ hnl a hr.1 hr))
            refine ⟨_, rfl, .inl ⟨rfl, _, SqL.of hR7⟩, _, rfl, F, _, _, natV f0, rfl, rfl, SqL.of hF7, at0, R, _, _, rfl, rfl, hR7, small, z⟩
    · rintro σ H' ⟨⟨x4, x5, x6, x7, x8, x9, rfl⟩, O2, h2, hs, hR2, hsl, hs8, good⟩
      exact ⟨_, rfl, k R H' hs ((Oth.of s1).trans O2) h2 hR0 hR2 (by omega) hs8 (good_first kok (by omega) good)⟩
end
end K15

set_option maxRecDepth 100000
set_option maxHeartbeats 8000000
namespace K15
open PySem PySem.Spec PyProof.Rows L2 Kw
theorem likeH_take {hs : List (Option Nat)} {row : List Nat} {x j k : Nat} (hk : row[j]? = some k) : likeH hs (row.take (j + 1)) x = likeH hs (row.take j) x ++ (if (hueOf hs k == hueOf hs x) = true then [k] else []) := by
  unfold likeH
  rw [List.take_add_one, hk, Option.toList_some, List.filter_append]
  congr 1
  cases e : (hueOf hs k == hueOf hs x) with
  | true => rw [List.filter_cons_of_pos (by exact e)]; rfl
  | false => rw [List.filter_cons_of_neg (by rw [e]; decide)]; rfl
theorem KinH.row {H : Hp} {ak ah : Addr} {us : List V} {ks : List (List Nat)} {hs : List (Option Nat)} (h : KinH H ak ah us ks hs) {c : Nat} (hc : c < ks.length) : ∃ t, us[c]? = some (.ref t) ∧ H t = some (.lst ((ks.getD c []).map natV)) ∧ (ks.getD c []).length ≤ 12 ∧ ∀ x ∈ ks.getD c [], x < hs.length := by
  obtain ⟨h1, h2, h3, hl, h12, ok⟩ := h
  obtain ⟨row, hrow⟩ : ∃ row, ks[c]? = some row := ⟨_, List.getElem?_eq_getElem hc⟩
  have hgd : ks.getD c [] = row := by
    rw [List.getD_eq_getElem?_getD, hrow]
    rfl
  obtain ⟨t, et, ht⟩ := h2.get hrow
  refine ⟨t, et, by rw [hgd]; exact ht, ?_, fun x hx => by have := ok.le c hc x hx; omega⟩
  have h1 := nodup_sub_len' (ns := List.range 12) (up_nodup (ok.up c hc)) fun x hx => List.mem_range.mpr (by have := ok.le c hc x hx; omega)
  rw [List.length_range] at h1
  exact h1
section
variable {P : Program} {w : World} {K : PySem.W.Frag} {mg : Str → Option Value} {base : Heap} {f fE fD fLO fDO fLk fLR C Cn Cc Cl Cnl Ck Cb : Addr} {fd fdE fdD fdLO fdDO fdLk fdLR : FuncData}
def spLookR (Ck : Addr) : Sp := fun vs H Q _ => ∃ (lp ak ah : Addr) (us : List V) (ks : List (List Nat)) (hs : List (Option Nat)) (c x d h : Nat), vs = [.ref lp, .ref ak, .ref ah, natV c, natV x, natV d] ∧ KinH H ak ah us ks hs ∧ c < ks.length ∧ x < ks.length ∧ hueOf hs x = some h ∧
  LookAt H lp Ck (natV h) (natV d) (foundV (ladH hs (ks.getD c []) h) d) (.bl ((ks.getD c []).contains x)) ∧ ∀ H', Same H H' → Q (.bl true) H'
theorem sc_lookR : FnScope ["_law_look", "_law_kin_here", "_law_hues", "_law_c", "_law_target", "_law_place", "_law_ladder", "_law_one", "_law_found"] ["_law_look", "_law_kin_here", "_law_hues", "_law_c", "_law_target", "_law_place"] (defScope (top 52)) := ⟨rfl, rfl, rfl, by decide +kernel, rfl, by decide +kernel, by decide +kernel⟩
theorem ok_lookR (F : FnP K "_law_look_right" 52 f fd) (B : Fr mg) (TK : ClsF K Ck ["hue", "place", "found", "answer"]) (FE : FnP K "_law_exact" 45 fE fdE) (mE : mg "_law_exact" = some (.ref fE)) (GE : FnOk P w K mg base CX0 2 fE fdE ["_law_thing", "_law_due"] (spExact 0)) :
    FnOk P w K mg base CX0 3 f fd ["_law_look", "_law_kin_here", "_law_hues", "_law_c", "_law_target", "_law_place"] (spLookR Ck) := by
  have bE : L2.Binds K fdE ["_law_thing", "_law_due"] [] := FE.bindsN fun _ _ _ _ _ _ us hl => match us, hl with | [_, _], _ => rfl
  refine F.ok sc_lookR (fun vs H Q E h => ?_) (fun cdv A outer s H vs Q E hr h => ?_)
  · obtain ⟨lp, ak, ah, us, ks, hs, c, x, d, h, rfl, _⟩ := h
    rfl
  · obtain ⟨lp, ak, ah, us, ks, hs, c, x, d, h, rfl, hK, hc, hx, hh, hLk, k⟩ := h
    refine ⟨_, PSs.nox (pss_cons (ps_setLc (i := 6) (own := [("_law_one", 7)]) (g := gName 7) rfl sc_lookR.nd rfl rfl (sw_true rfl rfl rfl (by decide +kernel)) (pi_list (pe_ix (r := rIxL K) ix_list (pv 1) (pv 3) (fun _ _ => rfl))) (blkOk_by (N := ["_law_look", "_law_kin_here", "_law_hues", "_law_c", "_law_target", "_law_place", "_law_ladder", "_law_one", "_law_found"]) (sc := defScope (top 52)) (by decide +kernel))
          (fun _ _ _ _ _ => pg_name (i := 7) sc_lookR.nd rfl (Or.inl rfl)) (fun _ _ _ _ _ => pts_one (pt_cmpR (r := rEq) op_eq (pe_ix (r := rIxL K) ix_list (pv 2) (pv 7) (fun _ _ => rfl)) (pe_ix (r := rIxL K) ix_list (pv 2) (pv 4) (fun _ _ => rfl)) (nomark _)))
          (fun _ _ _ _ _ => pv 7))
      (pss_cons (ps_set (i := 8) sc_lookR.nd rfl (Or.inl rfl) (pe_ifExp (pt_cmpR op_lt (pv 5) (pe_callB call_len_seq (by rfl) B.len PySem.boot_len (pa_cons (pv 6) pa_nil)) (nomark _)) (pe_ix (r := rIxL K) ix_list (pv 6) (pv 5) (fun _ _ => rfl)) pe_non))
      (pss_cons (ps_if (PW.pt (pw_or (pt_not (pt_val (pe_call GE hr (by rfl) mE FE.kp bE .nil pass0 (pa_cons (pe_fld (pv 0) rfl) (pa_cons (pe_ix (r := rIxL K) ix_list (pv 2) (pv 4) (fun _ _ => rfl)) pa_nil))))) (pw_or1 (pt_not (pt_val (pe_call GE hr (by rfl) mE FE.kp bE .nil pass0 (pa_cons (pe_fld (pv 0) rfl) (pa_cons (pv 5) pa_nil)))))))) (pss_one (ps_ret pe_bl)) pss_nil)
      (pss_one (ps_ret (pe_and (pe_call GE hr (by rfl) mE FE.kp bE .nil pass0 (pa_cons (pe_fld (pv 0) rfl) (pa_cons (pv 8) pa_nil))) (pe_one (pe_call GE hr (by rfl) mE FE.kp bE .nil pass0 (pa_cons (pe_fld (pv 0) rfl) (pa_cons (pe_cmpR (r := rIn K false) op_in_seq (pv 4) (pe_ix (r := rIxL K) ix_list (pv 1) (pv 3) (fun _ _ => rfl)) (by rfl)) pa_nil)))))))))), ?_⟩
    have hK0 := hK
    obtain ⟨h1, h2, h3, hl, h12, kok⟩ := hK
    obtain ⟨t, et, ht, l12, hin⟩ := hK0.row hc
    obtain ⟨ldx, hlk⟩ := hLk
    have hhx := hue_at (hs := hs) (x := x) (by omega)
    generalize hrow : ks.getD c [] = row at ht l12 hin hlk
    refine ⟨_, rfl, _, rfl, ak, us, (c : Int), _, rfl, rfl, SqL.of h1, atI_nat et, t, rfl, ⟨_, SqL.of ht⟩, fun D hD => lc_list (K := K) (a := t) (xs := row.map natV) (fun j H3 => Same H H3 ∧ H3 D = some (.lst ((likeH hs (row.take j) x).map natV))) ⟨same_new hD, upd_same⟩ (fun j H3 _ z => SqL.of (z.1 _ _ ht)) ?_ ?_⟩
    · rintro j y H3 hj ⟨s3, hD3⟩
      rw [List.getElem?_map] at hj
      obtain ⟨k1, hk1, rfl⟩ := Option.map_eq_some_iff.mp hj
      have kl := hin k1 (List.mem_of_getElem? hk1)
      have h3' := s3 _ _ h3
      refine ⟨rfl, _, rfl, _, rfl, ah, _, _, _, rfl, rfl, SqL.of h3', atI_nat (hue_at kl), _, rfl, _, rfl, ah, _, _, _, rfl, rfl, SqL.of h3', atI_nat hhx, hV_scal _ _, _, rfl, ?_⟩
      rw [hV_eq]
      have hm := likeH_take (hs := hs) (x := x) hk1
      cases c3 : (hueOf hs k1 == hueOf hs x) with
      | true =>
        rw [c3, if_pos rfl] at hm
        refine iteT' rfl ⟨_, rfl, _, hD3, ?_, same_upd s3 hD, ?_⟩
        · rw [List.length_map]
          refine Nat.lt_of_le_of_lt (List.length_filter_le _ _) ?_
          rw [List.length_take]
          show _ < 2 ^ 24
          omega
        · rw [hm, List.map_append, upd_same]
          rfl
      | false =>
        rw [c3, if_neg (by decide), List.append_nil] at hm
        exact iteF' rfl ⟨s3, by rw [hm]; exact hD3⟩
    · rintro H3 ⟨s3, hD3⟩
      rw [List.length_map, List.take_length, ladH_like hh] at hD3
      generalize hlad : ladH hs row h = lad at hD3 hlk
      have hlk3 := s3 _ _ hlk
      have fin : ∀ v, v = foundV lad d → (tSeq (tIfS (tOr (tNot (tTest (tCall (spExact 0) [] (fun _ _ _ => False) (tCons (tFld K (tVar 0) "hue") (tCons (tOp (rIxL K) (tVar 2) (tVar 4)) tNil))))) (tNot (tTest (tCall (spExact 0) [] (fun _ _ _ => False) (tCons (tFld K (tVar 0) "place") (tCons (tVar 5) tNil)))))) (tRet (tC (.bl false))) tNext)
          (tRet (tAndV (tCall (spExact 0) [] (fun _ _ _ => False) (tCons (tFld K (tVar 0) "found") (tCons (tVar 8) tNil))) (tCall (spExact 0) [] (fun _ _ _ => False) (tCons (tFld K (tVar 0) "answer") (tCons (tOp (rIn K false) (tVar 4) (tOp (rIxL K) (tVar 1) (tVar 3))) tNil)))))) { nx := fun _ H' => Q .non H', rt := Q } [some (.ref lp), some (.ref ak), some (.ref ah), some (natV c), some (natV x), some (natV d), some (.ref D), none, some v] H3 := fun v ev => by
        have fv : Flat v := by
          rw [ev]
          unfold foundV
          cases lad[d]? <;> exact True.intro
        rw [hh] at hhx
        refine ⟨_, rfl, lp, Ck, ldx, _, _, rfl, hlk3, TK.cl, TK.no _ (List.mem_of_getElem? (i := 0) rfl), rfl, _, rfl, _, rfl, ah, _, _, _, rfl, rfl, SqL.of (s3 _ _ h3), atI_nat hhx, _, _, rfl, Exact.flat 0 True.intro, fun H4 s4 => ⟨_, rfl, iteF' rfl ?_⟩⟩
        refine ⟨_, rfl, lp, Ck, ldx, _, _, rfl, s4 _ _ hlk3, TK.cl, TK.no _ (List.mem_of_getElem? (i := 1) rfl), rfl, _, rfl, _, _, rfl, Exact.flat 0 True.intro, fun H5 s5 => ⟨_, rfl, iteF' rfl ?_⟩⟩
        have hlk5 := s5 _ _ (s4 _ _ hlk3)
        refine ⟨_, rfl, lp, Ck, ldx, _, _, rfl, hlk5, TK.cl, TK.no _ (List.mem_of_getElem? (i := 2) rfl), rfl, _, rfl, _, _, rfl, by rw [← ev]; exact Exact.flat 0 fv, fun H6 s6 => ⟨_, rfl, iteT' rfl ?_⟩⟩
        have s06 := ((s3.trans s4).trans s5).trans s6
        refine ⟨_, rfl, lp, Ck, ldx, _, _, rfl, s06 _ _ hlk, TK.cl, TK.no _ (List.mem_of_getElem? (i := 3) rfl), rfl, _, rfl, _, rfl, _, rfl, ak, us, (c : Int), _, rfl, rfl, SqL.of (s06 _ _ h1), atI_nat et, t, _, rfl, .inl (SqL.of (s06 _ _ ht)), rfl, flat_nats row, _, _, rfl, ?_, fun H7 s7 => k H7 (s06.trans s7)⟩
        have ein : inV (natV x) (row.map natV) = row.contains x := inV_nat x row
        show Exact _ 0 (V.bl (row.contains x)) (V.bl (inV (natV x) (row.map natV)))
        rw [ein]
        exact Exact.flat 0 True.intro
      refine ⟨_, rfl, _, rfl, D, _, rfl, .inl (SqL.of hD3), _, _, rfl, rfl, _, rfl, ?_⟩
      rw [List.length_map]
      by_cases q3 : d < lad.length
      · refine iteT' (decide_eq_true (by omega)) ⟨_, rfl, _, rfl, D, _, _, natV lad[d], rfl, rfl, SqL.of hD3, atI_nat (by rw [List.getElem?_map, List.getElem?_eq_getElem q3]; rfl), ?_⟩
        exact fin _ (by unfold foundV; rw [List.getElem?_eq_getElem q3])
      · refine iteF' (decide_eq_false (by omega)) ?_
        exact fin _ (by unfold foundV; rw [List.getElem?_eq_none (by omega)])
end
end K15

set_option maxRecDepth 100000
set_option maxHeartbeats 8000000
namespace K15
open PySem PySem.Spec PyProof.Rows L2 Kw
theorem foundV_iff {l : List Nat} {d x : Nat} : decide (foundV l d = natV x) = decide (l[d]? = some x) := by
  rw [Bool.eq_iff_iff, decide_eq_true_eq, decide_eq_true_eq]
  unfold foundV
  cases e : l[d]? with
  | none => exact ⟨(fun h => by cases h), fun h => by cases h⟩
  | some y =>
    constructor
    · intro h
      have := V.int.inj h
      rw [show y = x by omega]
    · intro h
      rw [Option.some.inj h]
section
variable {P : Program} {w : World} {K : PySem.W.Frag} {mg : Str → Option Value} {base : Heap} {f fE fD fLO fDO fLk fLR C Cn Cc Cl Cnl Ck Cb : Addr} {fd fdE fdD fdLO fdDO fdLk fdLR : FuncData}
def spTold (C Cl : Addr) : Sp := fun vs H Q _ => ∃ (q p ak ah : Addr) (us : List V) (ds : List Ent) (hs : List (Option Nat)), vs = [.ref q, .ref ak, .ref ah] ∧ LadAt H q Cl C p ds hs ∧ LadOk ds hs ∧ KinH H ak ah us (kins (elsOf ds)) hs ∧ FirstC (kins (elsOf ds)) hs none ∧ ∀ H', Same H H' → Q (.bl true) H'
theorem sc_told : FnScope ["_law_ladders", "_law_kin_here", "_law_hues", "_law_depths_here", "_law_c", "_law_hue", "_law_one", "_law_target"] ["_law_ladders", "_law_kin_here", "_law_hues"] (defScope (top 51)) := ⟨rfl, rfl, rfl, by decide +kernel, rfl, by decide +kernel, by decide +kernel⟩
theorem ok_told (F : FnP K "_law_told_right" 51 f fd) (B : Fr mg) (TL : ClsF K Cl ["world", "hues"]) (FE : FnP K "_law_exact" 45 fE fdE) (mE : mg "_law_exact" = some (.ref fE)) (GE : FnOk P w K mg base CX0 2 fE fdE ["_law_thing", "_law_due"] (spExact 0)) (GE1 : FnOk P w K mg base CX0 3 fE fdE ["_law_thing", "_law_due"] (spExact 1))
    (FD : FnP K "_law_depths" 49 fD fdD) (mD : mg "_law_depths" = some (.ref fD)) (GD : FnOk P w K mg base CX0 1 fD fdD ["_law_kin_here", "_law_hues"] spDepths)
    (MLO : Meth K Cl "ladder_of" fLO) (GLO : FnOk P w K mg base CX0 4 fLO fdLO ["self", "c", "hue"] (spLadOf C Cl)) (bLO : Binds K fdLO ["self", "c", "hue"] [])
    (MDO : Meth K Cl "depth_of" fDO) (GDO : FnOk P w K mg base CX0 5 fDO fdDO ["self", "target"] (spDepOf C Cl)) (bDO : Binds K fdDO ["self", "target"] [])
    (MLk : Meth K Cl "one_look" fLk) (GLk : FnOk P w K mg base CX0 6 fLk fdLk ["self", "c", "target"] (spLook C Cl Ck)) (bLk : Binds K fdLk ["self", "c", "target"] [])
    (FLR : FnP K "_law_look_right" 52 fLR fdLR) (mLR : mg "_law_look_right" = some (.ref fLR)) (GLR : FnOk P w K mg base CX0 3 fLR fdLR ["_law_look", "_law_kin_here", "_law_hues", "_law_c", "_law_target", "_law_place"] (spLookR Ck)) :
    FnOk P w K mg base CX0 7 f fd ["_law_ladders", "_law_kin_here", "_law_hues"] (spTold C Cl) := by
  have bE : L2.Binds K fdE ["_law_thing", "_law_due"] [] := FE.bindsN fun _ _ _ _ _ _ us hl => match us, hl with | [_, _], _ => rfl
  have bD : L2.Binds K fdD ["_law_kin_here", "_law_hues"] [] := FD.bindsN fun _ _ _ _ _ _ us hl => match us, hl with | [_, _], _ => rfl
  have bLR : L2.Binds K fdLR ["_law_look", "_law_kin_here", "_law_hues", "_law_c", "_law_target", "_law_place"] [] := FLR.bindsN fun _ _ _ _ _ _ us hl => match us, hl with | [_, _, _, _, _, _], _ => rfl
  refine F.ok sc_told (fun vs H Q E h => ?_) (fun cdv A outer s H vs Q E hr h => ?_)
  · obtain ⟨q, p, ak, ah, us, ds, hs, rfl, _⟩ := h
    rfl
  · obtain ⟨q, p, ak, ah, us, ds, hs, rfl, hL, lok, hK, hC, k⟩ := h
    refine ⟨_, PSs.nox (pss_cons (ps_set (i := 3) sc_told.nd rfl (Or.inl rfl) (pe_call GD (hr.mono (by decide)) (by rfl) mD FD.kp bD .nil pass0 (pa_cons (pv 1) (pa_cons (pv 2) pa_nil))))
      (pss_cons (ps_for PassesOwn.never rfl (pi_range1 (by rfl) B.range (pa_cons (pe_callB call_len_seq (by rfl) B.len PySem.boot_len (pa_cons (pv 1) pa_nil)) pa_nil)) (pg_name (i := 4) sc_told.nd rfl (Or.inl rfl))
        (pss_one (ps_for PassesOwn.never rfl (pi_range1 (by rfl) B.range (pa_cons pe_int pa_nil)) (pg_name (i := 5) sc_told.nd rfl (Or.inr rfl))
          (pss_one (ps_if (pt_not (pt_val (pe_call GE1 (hr.mono (by decide)) (by rfl) mE FE.kp bE .nil pass0 (pa_cons (pe_meth (pv 0) TL.cl MLO GLO (hr.mono (by decide)) bLO .nil pass0 (pa_cons (pv 4) (pa_cons (pv 5) pa_nil))) (pa_cons (pe_callTy (T := "tuple") (r := rTupOf K) (call_tup (X := _)) (by rfl) B.tuple (by decide +kernel) (pa_cons
              (pe_lc (own := [("_law_one", 6)]) (g := gName 6) (tt := tTest (tOp rEq (tOp (rIxL K) (tVar 2) (tVar 6)) (tVar 5))) rfl sc_told.nd (pi_list (pe_ix (r := rIxL K) ix_list (pv 1) (pv 4) (fun _ _ => rfl))) (blkOk_by (N := ["_law_ladders", "_law_kin_here", "_law_hues", "_law_depths_here", "_law_c", "_law_hue", "_law_one", "_law_target"]) (sc := defScope (top 51)) (by decide +kernel))
                (fun _ _ _ _ _ => pg_name (i := 6) sc_told.nd rfl (Or.inl rfl)) (fun _ _ _ _ _ => ?tt) (fun _ _ _ _ _ => pv 6)) pa_nil)) pa_nil))))) (pss_one (ps_ret pe_bl)) pss_nil)))))
      (pss_cons (ps_for PassesOwn.never rfl (pi_range1 (by rfl) B.range (pa_cons (pe_callB call_len_seq (by rfl) B.len PySem.boot_len (pa_cons (pv 1) pa_nil)) pa_nil)) (pg_name (i := 7) sc_told.nd rfl (Or.inl rfl))
        (pss_one (ps_if (pt_cmpR op_notN (pe_ix (r := rIxL K) ix_list (pv 2) (pv 7) (fun _ _ => rfl)) pe_non (nomark _))
          (pss_cons (ps_if (pt_not (pt_val (pe_call GE (hr.mono (by decide)) (by rfl) mE FE.kp bE .nil pass0 (pa_cons (pe_meth (pv 0) TL.cl MDO GDO (hr.mono (by decide)) bDO .nil pass0 (pa_cons (pv 7) pa_nil)) (pa_cons (pe_ix (r := rIxL K) ix_list (pv 3) (pv 7) (fun _ _ => rfl)) pa_nil))))) (pss_one (ps_ret pe_bl)) pss_nil)
          (pss_one (ps_for PassesOwn.never rfl (pi_range1 (by rfl) B.range (pa_cons (pe_callB call_len_seq (by rfl) B.len PySem.boot_len (pa_cons (pv 1) pa_nil)) pa_nil)) (pg_name (i := 4) sc_told.nd rfl (Or.inl rfl))
            (pss_one (ps_if (pt_not (pt_val (pe_call GLR (hr.mono (by decide)) (by rfl) mLR FLR.kp bLR .nil pass0 (pa_cons (pe_meth (pv 0) TL.cl MLk GLk hr bLk .nil pass0 (pa_cons (pv 4) (pa_cons (pv 7) pa_nil))) (pa_cons (pv 1) (pa_cons (pv 2) (pa_cons (pv 4) (pa_cons (pv 7) (pa_cons (pe_ix (r := rIxL K) ix_list (pv 3) (pv 7) (fun _ _ => rfl)) pa_nil))))))))) (pss_one (ps_ret pe_bl)) pss_nil))))) pss_nil)))
      (pss_one (ps_ret pe_bl))))), ?_⟩
    case tt => exact pts_one (pt_cmpR (r := rEq) op_eq (pe_ix (r := rIxL K) ix_list (pv 2) (pv 6) (fun _ _ => rfl)) (pv 5) (nomark _))
    have kl : (kins (elsOf ds)).length = ds.length := kinsL
    have n12 := lok.few
    have hsl := lok.len
    have hK0 := hK
    have hL0 := hL
    obtain ⟨h1, h2, h3, _, _, kok⟩ := hK
    have usl : us.length = ds.length := by rw [h2.len, kl]
    refine ⟨_, rfl, _, rfl, ak, ah, us, _, hs, rfl, hK0, fun dl H1 s1 hdl => ?_⟩
    refine ⟨_, rfl, ak, us, rfl, .inl (SqL.of (s1 _ _ h1)), _, rfl, by omega, by omega, ?_⟩
    refine for_range (n := us.length) (fun i σ H' => Same H1 H' ∧ ∃ x4 x5 x6 x7, σ = [some (.ref q), some (.ref ak), some (.ref ah), some (.ref dl), x4, x5, x6, x7]) ⟨Same.refl _, _, _, _, _, rfl⟩ ?_ ?_
    · rintro i σ H' hi ⟨sH, x4, x5, x6, x7, rfl⟩
      have ei : (0 : Int) + (i : Int) = (i : Int) := by omega
      rw [ei]
      have hid : i < ds.length := by omega
      refine ⟨8, rfl, by decide, by decide, ?_⟩
      refine for_range (n := 8) (fun j σ H2 => Same H1 H2 ∧ ∃ x5 x6 x7, σ = [some (.ref q), some (.ref ak), some (.ref ah), some (.ref dl), some (natV i), x5, x6, x7]) ⟨sH, _, _, _, rfl⟩ ?_ ?_
      · rintro j σ H2 hj ⟨s2, x5, x6, x7, rfl⟩
        have ej : (0 : Int) + (j : Int) = (j : Int) := by omega
        rw [ej]
        have s02 := s1.trans s2
        have hL2 := hL0.mono s02
        have hL2' := hL2
        obtain ⟨dq, ht, q1, q2, hw⟩ := hL2'
        refine ⟨_, rfl, q, dq, _, rfl, q1, rfl, _, rfl, _, rfl, q, p, ds, hs, i, j, rfl, hL2, lok, hid, hj, fun t1 H3 s3 ht1 => ?_⟩
        have hK3 := hK0.same (s02.trans s3)
        obtain ⟨t, et, htr, l12, hin⟩ := hK3.row (c := i) (by omega)
        obtain ⟨g1, g2, g3, _⟩ := hK3
        generalize hrow : (kins (elsOf ds)).getD i [] = row at ht1 htr l12 hin
        refine ⟨_, rfl, _, rfl, ak, us, (i : Int), _, rfl, rfl, SqL.of g1, atI_nat et, t, rfl, ⟨_, SqL.of htr⟩, fun D hD => lc_list (K := K) (a := t) (xs := row.map natV) (fun m H4 => Same H3 H4 ∧ H4 D = some (.lst ((ladH hs (row.take m) j).map natV))) ⟨same_new hD, upd_same⟩ (fun m H4 _ z => SqL.of (z.1 _ _ htr)) ?_ ?_⟩
        · rintro m y H4 hm ⟨s4, hD4⟩
          rw [List.getElem?_map] at hm
          obtain ⟨k1, hk1, rfl⟩ := Option.map_eq_some_iff.mp hm
          have kl1 := hin k1 (List.mem_of_getElem? hk1)
          refine ⟨rfl, _, rfl, _, rfl, ah, _, _, _, rfl, rfl, SqL.of (s4 _ _ g3), atI_nat (hue_at kl1), _, rfl, hV_scal (hueOf hs k1) (some j), _, rfl, ?_⟩
          have ed : decide (hV (hueOf hs k1) = natV j) = (hueOf hs k1 == some j) := hV_eq (hueOf hs k1) (some j)
          show (if decide (hV (hueOf hs k1) = natV j) = true then _ else _)
          rw [ed]
          have hmm := ladH_take (hs := hs) (h := j) hk1
          cases c3 : (hueOf hs k1 == some j) with
          | true =>
            rw [c3, if_pos rfl] at hmm
            refine iteT' rfl ⟨_, rfl, _, hD4, ?_, same_upd s4 hD, ?_⟩
            · rw [List.length_map]
              refine Nat.lt_of_le_of_lt (List.length_filter_le _ _) ?_
              rw [List.length_take]
              show _ < 2 ^ 24
              omega
            · rw [hmm, List.map_append, upd_same]
              rfl
          | false =>
            rw [c3, if_neg (by decide), List.append_nil] at hmm
            exact iteF' rfl ⟨s4, by rw [hmm]; exact hD4⟩
        · rintro H4 ⟨s4, hD4⟩
          rw [List.length_map, List.take_length] at hD4
          refine tup_q (.inl hD4) fun t2 H5 s5 ht2 => ?_
          have llen : (ladH hs row j).length ≤ 12 := Nat.le_trans (List.length_filter_le _ _) l12
          refine ⟨_, _, rfl, Exact.tup 0 (s5 _ _ (s4 _ _ ht1)) ht2 (fun x hx => by obtain ⟨n, _, rfl⟩ := List.mem_map.mp hx; exact True.intro) (by rw [List.length_map]; omega), fun H6 s6 => ⟨_, rfl, iteF' rfl ⟨((((s2.trans s3).trans s4).trans s5).trans s6), _, _, _, rfl⟩⟩⟩
      · rintro σ H2 ⟨s2, x5, x6, x7, rfl⟩
        exact ⟨s2, _, _, _, _, rfl⟩
    · rintro σ H2 ⟨s2, x4, x5, x6, x7, rfl⟩
      refine ⟨_, rfl, ak, us, rfl, .inl (SqL.of (s2 _ _ (s1 _ _ h1))), _, rfl, by omega, by omega, ?_⟩
      refine for_range (n := us.length) (fun i σ H' => Same H1 H' ∧ ∃ x4 x5 x6 x7, σ = [some (.ref q), some (.ref ak), some (.ref ah), some (.ref dl), x4, x5, x6, x7]) ⟨s2, _, _, _, _, rfl⟩ ?_ ?_
      · rintro x σ H' hx ⟨sH, x4, x5, x6, x7, rfl⟩
        have ei : (0 : Int) + (x : Int) = (x : Int) := by omega
        rw [ei]
        have hxd : x < ds.length := by omega
        have xl : x < hs.length := by omega
        have s0H := s1.trans sH
        have hat := hue_at xl
        have edep : (depthsOf (kins (elsOf ds)) hs)[x]? = some (depthI (kins (elsOf ds)) hs x) := by
          unfold depthsOf
          rw [List.getElem?_map, List.getElem?_range (by omega)]
          rfl
        have edv : ((depthsOf (kins (elsOf ds)) hs).map V.int)[x]? = some (V.int (depthI (kins (elsOf ds)) hs x)) := by rw [List.getElem?_map, edep]; rfl
        obtain ⟨d, hd⟩ : ∃ d : Nat, depthI (kins (elsOf ds)) hs x = (d : Int) := by
          have : 0 < (likeH hs ((kins (elsOf ds)).getD x []) x).length := List.length_pos_of_mem (mem_like.mpr ⟨kok.self x (by omega), rfl⟩)
          exact ⟨(likeH hs ((kins (elsOf ds)).getD x []) x).length - 1, by unfold depthI; omega⟩
        refine ⟨_, rfl, _, rfl, ah, _, _, _, rfl, rfl, SqL.of (s0H _ _ h3), atI_nat hat, rfl, _, rfl, ?_⟩
        rw [hV_non]
        cases hh : hueOf hs x with
        | none => exact iteF' rfl ⟨sH, _, _, _, _, rfl⟩
        | some h =>
          have hLH := hL0.mono s0H
          have hLH' := hLH
          obtain ⟨dq, ht, q1, q2, hw⟩ := hLH'
          refine iteT' rfl ⟨_, rfl, q, dq, _, rfl, q1, rfl, _, rfl, q, p, ds, hs, x, h, rfl, hLH, lok, hxd, hh, fun H3 s3 => ?_⟩
          have hdl3 := s3 _ _ (sH _ _ hdl)
          refine ⟨_, rfl, _, rfl, dl, _, _, _, rfl, rfl, SqL.of hdl3, atI_nat edv, _, _, rfl, Exact.flat 0 True.intro, fun H4 s4 => ⟨_, rfl, iteF' rfl ?_⟩⟩
          have s14 := (sH.trans s3).trans s4
          refine ⟨_, rfl, ak, us, rfl, .inl (SqL.of (s14 _ _ (s1 _ _ h1))), _, rfl, by omega, by omega, ?_⟩
          refine for_range (n := us.length) (fun j σ H' => Same H1 H' ∧ ∃ x4 x5 x6, σ = [some (.ref q), some (.ref ak), some (.ref ah), some (.ref dl), x4, x5, x6, some (natV x)]) ⟨s14, _, _, _, rfl⟩ ?_ ?_
          · rintro c σ H5 hc ⟨s5, x4, x5, x6, rfl⟩
            have ec : (0 : Int) + (c : Int) = (c : Int) := by omega
            rw [ec]
            have hcd : c < ds.length := by omega
            have s05 := s1.trans s5
            have hL5 := hL0.mono s05
            have hL5' := hL5
            obtain ⟨dq5, ht5, q15, q25, hw5⟩ := hL5'
            refine ⟨_, rfl, q, dq5, _, rfl, q15, rfl, _, rfl, _, rfl, q, p, ds, hs, c, x, h, d, rfl, hL5, lok, hcd, hxd, hh, hd, fun la H6 s6 hLk => ?_⟩
            rw [foundV_iff] at hLk
            have iff := look_iff kok hC (c := c) (x := x) (by omega) (by omega) hh hd
            have eb : decide ((ladH hs ((kins (elsOf ds)).getD c []) h)[d]? = some x) = ((kins (elsOf ds)).getD c []).contains x := by
              rw [Bool.eq_iff_iff, decide_eq_true_eq, List.contains_iff_mem]
              exact iff
            rw [eb] at hLk
            have hdl6 := s6 _ _ (s5 _ _ hdl)
            refine ⟨_, rfl, _, rfl, _, rfl, _, rfl, _, rfl, _, rfl, dl, _, _, _, rfl, rfl, SqL.of hdl6, atI_nat edv, ?_⟩
            rw [hd]
            exact ⟨la, ak, ah, us, _, hs, c, x, d, h, rfl, hK0.same (s05.trans s6), by omega, by omega, hh, hLk, fun H7 s7 => ⟨_, rfl, iteF' rfl ⟨(s5.trans s6).trans s7, _, _, _, rfl⟩⟩⟩
          · rintro σ H5 ⟨s5, x4, x5, x6, rfl⟩
            exact ⟨s5, _, _, _, _, rfl⟩
      · rintro σ H3 ⟨s3, x4, x5, x6, x7, rfl⟩
        exact k H3 (s1.trans s3)
end
end K15

set_option maxRecDepth 100000
set_option maxHeartbeats 16000000
namespace K15
open PySem PySem.Spec PyProof.Rows L2 Kw
/-! ### all stays but the hand's list -/
def HandLike (o : HO) : Prop := ∃ q i r t, o = .lst [.ref q, .int i, .int r, .int t]
def KI (H H' : Hp) : Prop := ∀ b o, H b = some o → ¬ HandLike o → H' b = some o
theorem KI.of {H H' : Hp} (s : Same H H') : KI H H' := fun b o e _ => s b o e
theorem KI.trans {H H1 H2 : Hp} (a : KI H H1) (b : KI H1 H2) : KI H H2 := fun c o e n => b c o (a c o e n) n
theorem KI.oth {p q : Addr} {H H' : Hp} (O : Oth p H H') (h : HandAt H p q) : KI H H' := fun b o e n => O b o (fun z => by
  obtain ⟨cs, i, r, t, h1, _⟩ := h
  rw [z, h1] at e
  exact n ⟨_, _, _, _, (Option.some.inj e).symm⟩) e
theorem nh_tup {xs : List V} : ¬ HandLike (.tup xs) := fun ⟨_, _, _, _, e⟩ => by cases e
theorem nh_ins {C dx : Addr} {fs : List (Str × V)} : ¬ HandLike (.ins C dx fs) := fun ⟨_, _, _, _, e⟩ => by cases e
theorem nh_hues {hs : List (Option Nat)} : ¬ HandLike (.lst (hs.map hV)) := fun ⟨_, _, _, _, e⟩ => by
  cases hs with
  | nil => cases e
  | cons o r =>
    injection e with e
    injection e with e _
    cases o <;> cases e
theorem nh_nats {l : List Nat} : ¬ HandLike (.lst (l.map natV)) := fun ⟨_, _, _, _, e⟩ => by
  cases l with
  | nil => cases e
  | cons n r =>
    injection e with e
    injection e with e _
    cases e
theorem nh_refs {us : List V} (h : ∀ v ∈ us, ∃ a, v = .ref a) : ¬ HandLike (.lst us) := fun ⟨_, i, _, _, e⟩ => by
  injection e with e
  obtain ⟨a, z⟩ := h (.int i) (by rw [e]; exact List.mem_cons_of_mem _ List.mem_cons_self)
  cases z
theorem RwN.refs {R : Addr} {H : Hp} : ∀ {vs : List V} {ls : List Ent}, RwN R H vs ls → ∀ v ∈ vs, ∃ a, v = .ref a
  | [], [], _, v, hv => by cases hv
  | _ :: _, _ :: _, .cons ⟨t, b, m, e, _⟩ r, v, hv => by
    rcases List.mem_cons.mp hv with z | hv
    · exact ⟨t, z.trans e⟩
    · exact RwN.refs r v hv
theorem ListsAt.refs {H : Hp} : ∀ {vs : List V} {ls : List (List Nat)}, ListsAt H vs ls → ∀ v ∈ vs, ∃ a, v = .ref a
  | [], [], _, v, hv => by cases hv
  | _ :: _, _ :: _, .cons ⟨t, e, _⟩ r, v, hv => by
    rcases List.mem_cons.mp hv with z | hv
    · exact ⟨t, z.trans e⟩
    · exact ListsAt.refs r v hv
theorem RwN.ki {R : Addr} {H H' : Hp} (k : KI H H') : ∀ {vs : List V} {ls : List Ent}, RwN R H vs ls → RwN R H' vs ls
  | [], [], _ => .nil
  | _ :: _, _ :: _, .cons ⟨t, b, m, e, n1, h1, n2, h2, n3, h3⟩ r => .cons ⟨t, b, m, e, n1, k _ _ h1 nh_tup, n2, k _ _ h2 nh_nats, n3, k _ _ h3 nh_nats⟩ (RwN.ki k r)
theorem RwN.new {R R' : Addr} {H : Hp} (hn : H R' = none) : ∀ {vs : List V} {ls : List Ent}, RwN R H vs ls → RwN R' H vs ls
  | [], [], _ => .nil
  | _ :: _, _ :: _, .cons ⟨t, b, m, e, n1, h1, n2, h2, n3, h3⟩ r => .cons ⟨t, b, m, e, ne_of_none h1 hn, h1, ne_of_none h2 hn, h2, ne_of_none h3 hn, h3⟩ (RwN.new hn r)
theorem ListsAt.ki {H H' : Hp} (k : KI H H') : ∀ {vs : List V} {ls : List (List Nat)}, ListsAt H vs ls → ListsAt H' vs ls
  | [], [], _ => .nil
  | _ :: _, _ :: _, .cons ⟨t, e, h⟩ r => .cons ⟨t, e, k _ _ h nh_nats⟩ (ListsAt.ki k r)
theorem KinH.ki {H H' : Hp} {ak ah : Addr} {us : List V} {ks : List (List Nat)} {hs : List (Option Nat)} (h : KinH H ak ah us ks hs) (k : KI H H') : KinH H' ak ah us ks hs := by
  obtain ⟨h1, h2, h3, h4⟩ := h
  exact ⟨k _ _ h1 (nh_refs h2.refs), h2.ki k, k _ _ h3 nh_hues, h4⟩
theorem WorldAt.ki {H H' : Hp} {p C : Addr} {ds : List Ent} (h : WorldAt H p C ds) (k : KI H H') : WorldAt H' p C ds := by
  have kt : TupK H H' := fun b xs e => k b _ e nh_tup
  obtain ⟨dx, ac, ab, ao, am, ae, ah, cs, bs, ms, es, hs, h1, h2, h3, h4, h5, h6, h7, h8, h9, h10, h11, h12⟩ := h
  exact ⟨dx, ac, ab, ao, am, ae, ah, cs, bs, ms, es, hs, k _ _ h1 nh_ins, kt _ _ h2, h3.mono kt, kt _ _ h4, h5.mono kt, kt _ _ h6, kt _ _ h7, h8.mono kt, kt _ _ h9, h10.mono kt, kt _ _ h11, h12.mono kt⟩
theorem LadAt.ki {H H' : Hp} {q Cl C p : Addr} {ds : List Ent} {hs : List (Option Nat)} (h : LadAt H q Cl C p ds hs) (k : KI H H') : LadAt H' q Cl C p ds hs := by
  obtain ⟨dq, t, h1, h2, h3⟩ := h
  exact ⟨dq, t, k _ _ h1 nh_ins, k _ _ h2 nh_tup, h3.ki k⟩
theorem HandAt.ne_of {H : Hp} {p q b : Addr} {o : HO} (h : HandAt H p q) (e : H b = some o) (n : ¬ HandLike o) : b ≠ p := fun z => by
  obtain ⟨cs, i, r, t, h1, _⟩ := h
  rw [z, h1] at e
  exact n ⟨_, _, _, _, (Option.some.inj e).symm⟩
/-- what stands at the head of a turn -/
def LawSt (C Cl : Addr) (H : Hp) (p q l : Addr) (us : List V) (ds : List Ent) (R : Addr) (hs : List (Option Nat)) (ql wp : Addr) : Prop :=
  HandAt H p q ∧ H l = some (.lst us) ∧ RwN l H us ds ∧ H R = some (.lst (hs.map hV)) ∧ LadAt H ql Cl C wp ds hs ∧ LadOk ds hs ∧ FirstC (kins (elsOf ds)) hs none
theorem filter_els {ds : List Ent} {n : Nat} (h : n < ds.length) : ((kins (elsOf ds)).getD n []).filter (fun x => decide (x < n)) = (elsOf ds).getD n [] := by
  rw [kins_els h, List.filter_append]
  have e1 : List.filter (fun x => decide (x < n)) [n] = [] := by
    rw [List.filter_cons_of_neg (by simp)]
    rfl
  rw [e1, List.append_nil, List.filter_eq_self]
  intro x hx
  exact decide_eq_true (elders_below hx)
theorem Least.congr {c c' : Nat → Nat → Bool} {xs : List Nat} {o : Option (List Nat)} (e : ∀ a ∈ xs, ∀ b ∈ xs, c a b = c' a b) (h : Least c xs o) : Least c' xs o := by
  rcases h with ⟨rfl, h⟩ | ⟨a, b, rfl, ha, hb, hc, hm⟩
  · exact .inl ⟨rfl, fun a ha b hb => by rw [← e a ha b hb]; exact h a ha b hb⟩
  · exact .inr ⟨a, b, rfl, ha, hb, by rw [← e a ha b hb]; exact hc, fun a' ha' b' hb' z => hm a' ha' b' hb' (by rw [e a' ha' b' hb']; exact z)⟩
def hueTab : List (Option Nat) := [none, some 0, some 1, some 2, some 3, some 4, some 5, some 6, some 7, some 0]
theorem hueTab_at {r : Int} (h0 : 0 ≤ r) (h1 : r < 10) : ∃ o : Option Nat, atI (hueTab.map hV) r = some (hV o) ∧ ∀ h, o = some h → h < 8 := by
  obtain ⟨j, rfl⟩ : ∃ j : Nat, r = (j : Int) := ⟨r.toNat, by omega⟩
  have hj : j < hueTab.length := by
    show j < 10
    omega
  refine ⟨hueTab[j], atI_nat (by rw [List.getElem?_map, List.getElem?_eq_getElem hj]; rfl), fun h e => ?_⟩
  have z := (by decide : ∀ o ∈ hueTab, o.getD 0 < 8) _ (List.getElem_mem hj)
  rw [e] at z
  exact z
section
variable {P : Program} {w : World} {K : PySem.W.Frag} {mg : Str → Option Value} {base : Heap} {f fHa fT fCl fW fK fPA f3 fE fRH fTo fBa fMe fRo fLI fCO fWL fQ fX C Cb Cc Cl Cnl : Addr} {fd fdHa fdT fdCl fdW fdK fdPA fd3 fdE fdRH fdTo fdBa fdMe fdRo fdLI fdCO fdWL fdQ fdX : FuncData}
theorem op_eqW {X : Cx} (GQ : FnOk X.prog X.w X.K X.mg X.base CX0 1 fQ fdQ ["self", "other"] (spEq (REq C))) (eqC : PySem.W.findIn X.K (.ref C) "__eq__" = some (some (.ref fQ))) (eqF : PySem.W.isFn X.K (.ref fQ) = true) (bQ : Binds X.K fdQ ["self", "other"] []) (hr : Room 1 X.A) : OpR X (compareOp .Eq) (rEqG (DIns C (REq C))) :=
  op_eqG (rcG_ins (E := fun _ _ _ => False) GQ eqC eqF bQ pass0) hr
theorem world_q {H : Hp} {wp wdx l : Addr} {us : List V} {ds : List Ent} {Q : VK} {E : XK} (hl : H l = some (.lst us)) (hR : RwN l H us ds) (ok : DsOk ds) (h0 : 1 ≤ ds.length) (h12 : ds.length ≤ 12) (hwp : H wp = none) (hwdx : H wdx = none) (wne : wdx ≠ wp) (q : ∀ H', Same H H' → WorldAt H' wp C ds → Q .non H') :
    spWorld C Cb (.ref wp :: ([.ref l] ++ [])) (upd (upd H wdx (.own wp)) wp (.ins C wdx [])) Q E := by
  have s7 := (same_new (o := .own wp) hwdx).trans (same_new (o := .ins C wdx []) (by rw [upd_ne (Ne.symm wne)]; exact hwp))
  have W7 : upd (upd H wdx (.own wp)) wp (.ins C wdx []) wp = some (.ins C wdx []) := upd_same
  generalize upd (upd H wdx (.own wp)) wp (.ins C wdx []) = G7 at s7 W7 ⊢
  have usl := hR.len
  exact ⟨wp, wdx, .ref l, rfl, W7, .inr ⟨l, us, ds, rfl, .inl (s7 _ _ hl), by omega, by omega, by omega, (hR.keep (KeepX.of s7)).entries ok, .inr ⟨usl.symm, fun H8 O8 hW => q H8 (fun b u e => O8 b u (ne_of_none e hwp) (s7 _ _ e)) hW⟩⟩⟩
/-- due, of the pair that was found -/
theorem due_q {H : Hp} {σ : L2.St} {v : V} {l : Addr} {n : Nat} {o : Option (List Nat)} {Q : VK} {r : List V → Hp → VK → Prop} (hr : ∀ {H' : Hp} {Q' : VK}, Same H H' → Q' (.int (n : Int)) H' → r [.ref l] H' Q') (h2 : σ[2]? = some (some (.ref l))) (h12 : σ[12]? = some (some v)) (hO : OptTup H v o) (ho : ∀ z, o = some z → ∃ x y, z = [x, y])
    (q : ∀ dv H', Same H H' → OptTup H' dv (o.map (n :: ·)) → Q dv H') :
    if decide (v = V.non) = true then tC .non σ H Q else tTup (tCons (tCB r (tCons (tVar 2) tNil)) (tCons (tOp (rIxT K) (tVar 12) (tC (.int 0))) (tCons (tOp (rIxT K) (tVar 12) (tC (.int 1))) tNil))) σ H Q := by
  rcases hO with ⟨rfl, rfl⟩ | ⟨z, t, rfl, rfl, ht⟩
  · exact iteT' rfl (q _ H (Same.refl H) (.inl ⟨rfl, rfl⟩))
  · obtain ⟨x, y, rfl⟩ := ho z rfl
    refine iteF' rfl ⟨_, h2, hr (Same.refl H) ⟨_, h12, t, _, _, natV x, rfl, rfl, SqT.of ht, rfl, _, h12, t, _, _, natV y, rfl, rfl, SqT.of ht, rfl, (by show 3 ≤ sizeLine; decide), fun D hD => q _ _ (same_new hD) (.inr ⟨_, D, rfl, rfl, upd_same⟩)⟩⟩
def spLaw (K : PySem.W.Frag) : Sp := fun vs H Q _ => ∃ (a : Addr) (ns : List Int), vs = [.ref a] ∧ SqL K H a (ns.map V.int) ∧ ns.length ≤ 63 ∧ ∀ H', Q (.bl true) H'
theorem sc_law : FnScope ["_law_script", "_law_hand_here", "_law_rows", "_law_hues", "_law_ladders", "_law_step", "_law_bases_here", "_law_fields", "_law_methods_here", "_law_hue", "_law_more", "_law_kin_here", "_law_pair", "_law_one", "_law_due", "_law_later", "_law_told", "error"] ["_law_script"] (defScope (top 54)) := ⟨rfl, rfl, rfl, by decide +kernel, rfl, by decide +kernel, by decide +kernel⟩
theorem ok_law (F : FnP K "law" 54 f fd) (B : Fr mg)
    (FHa : FnP K "_law_hand" 35 fHa fdHa) (mHa : mg "_law_hand" = some (.ref fHa)) (GHa : FnOk P w K mg base CX0 1 fHa fdHa ["_law_script"] (spHand K))
    (FT : FnP K "_law_take" 37 fT fdT) (mT : mg "_law_take" = some (.ref fT)) (GT : FnOk P w K mg base CX0 2 fT fdT ["_law_hand_here", "_law_many"] spTake)
    (FCl : FnP K "_law_classes" 41 fCl fdCl) (mCl : mg "_law_classes" = some (.ref fCl)) (GCl : FnOk P w K mg base CX0 5 fCl fdCl ["_law_hand_here", "_law_low", "_law_high", "_law_most", "_law_wanted"] spClasses)
    (FBa : FnP K "_law_bases" 38 fBa fdBa) (mBa : mg "_law_bases" = some (.ref fBa)) (GBa : FnOk P w K mg base CX0 3 fBa fdBa ["_law_hand_here", "_law_c"] spBases)
    (FMe : FnP K "_law_methods" 39 fMe fdMe) (mMe : mg "_law_methods" = some (.ref fMe)) (GMe : FnOk P w K mg base CX0 3 fMe fdMe ["_law_hand_here"] spMethods)
    (FRo : FnP K "_law_row" 43 fRo fdRo) (mRo : mg "_law_row" = some (.ref fRo)) (GRo : FnOk P w K mg base CX0 3 fRo fdRo ["_law_hand_here", "_law_items"] spRow)
    (FRH : FnP K "_law_right_hues" 50 fRH fdRH) (mRH : mg "_law_right_hues" = some (.ref fRH)) (GRH : FnOk P w K mg base CX0 4 fRH fdRH ["_law_hand_here", "_law_rows"] spRHues)
    (FW : FnM K "__init__" "World.__init__" (inClass (top 30) 0) fW fdW) (MW : Mk K C fW) (mW : mg "World" = some (.ref C)) (GW : FnOk P w K mg base (L2.CX P w) 4 fW fdW ["self", "classes"] (spWorld C Cb)) (TC : ClsWorld K mg C)
    (FLI : FnM K "__init__" "Ladders.__init__" (inClass (top 20) 0) fLI fdLI) (TL : ClsF K Cl ["world", "hues"]) (MLI : Mk K Cl fLI) (mLI : mg "Ladders" = some (.ref Cl)) (GLI : FnOk P w K mg base (L2.CX P w) 7 fLI fdLI ["self", "world", "hues"] (spLadders C Cl Cnl))
    (FK : FnP K "_law_kin" 46 fK fdK) (mK : mg "_law_kin" = some (.ref fK)) (GK : FnOk P w K mg base CX0 2 fK fdK ["_law_rows"] spKin)
    (FPA : FnP K "_law_pair_among" 48 fPA fdPA) (mPA : mg "_law_pair_among" = some (.ref fPA)) (GPA : FnOk P w K mg base CX0 1 fPA fdPA ["_law_kin_here", "_law_hues", "_law_among"] spPairAm)
    (F3 : FnP K "_law_three_right" 53 f3 fd3) (m3 : mg "_law_three_right" = some (.ref f3)) (G3 : FnOk P w K mg base CX0 4 f3 fd3 ["_law_told", "_law_due"] (spThree Cc))
    (FE : FnP K "_law_exact" 45 fE fdE) (mE : mg "_law_exact" = some (.ref fE)) (GE1 : FnOk P w K mg base CX0 3 fE fdE ["_law_thing", "_law_due"] (spExact 1))
    (FTo : FnP K "_law_told_right" 51 fTo fdTo) (mTo : mg "_law_told_right" = some (.ref fTo)) (GTo : FnOk P w K mg base CX0 7 fTo fdTo ["_law_ladders", "_law_kin_here", "_law_hues"] (spTold C Cl))
    (MCO : Meth K Cl "clash_of" fCO) (GCO : FnOk P w K mg base CX0 7 fCO fdCO ["self", "bases"] (spClashOf C Cl Cc)) (bCO : Binds K fdCO ["self", "bases"] [])
    (MWL : Meth K Cl "with_class" fWL) (GWL : FnOk P w K mg base (L2.CX P w) 9 fWL fdWL ["self", "bases", "fields", "methods", "hue"] (spWithL C Cl Cnl)) (bWL : Binds K fdWL ["self", "bases", "fields", "methods", "hue"] [])
    (GQ : FnOk P w K mg base CX0 1 fQ fdQ ["self", "other"] (spEq (REq C))) (bQ : Binds K fdQ ["self", "other"] []) (eqC : PySem.W.findIn K (.ref C) "__eq__" = some (some (.ref fQ))) (eqF : PySem.W.isFn K (.ref fQ) = true)
    (TX : ErrX K mg "NotLine" ["cls", "first", "second"] Cnl fX) (XX : XfC K Cnl) (exN : PySem.W.exmOne K (.ref Cnl) (.ref Cnl) = some true) :
    FnOk P w K mg base CX0 10 f fd ["_law_script"] (spLaw K) := by
  have bHa : L2.Binds K fdHa ["_law_script"] [] := FHa.bindsN fun _ _ _ _ _ _ us hl => match us, hl with | [_], _ => rfl
  have bT : L2.Binds K fdT ["_law_hand_here", "_law_many"] [] := FT.bindsN fun _ _ _ _ _ _ us hl => match us, hl with | [_, _], _ => rfl
  have bCl : L2.Binds K fdCl ["_law_hand_here", "_law_low", "_law_high", "_law_most", "_law_wanted"] [] := FCl.bindsN fun _ _ _ _ _ _ us hl => match us, hl with | [_, _, _, _, _], _ => rfl
  have bBa : L2.Binds K fdBa ["_law_hand_here", "_law_c"] [] := FBa.bindsN fun _ _ _ _ _ _ us hl => match us, hl with | [_, _], _ => rfl
  have bMe : L2.Binds K fdMe ["_law_hand_here"] [] := FMe.bindsN fun _ _ _ _ _ _ us hl => match us, hl with | [_], _ => rfl
  have bRo : L2.Binds K fdRo ["_law_hand_here", "_law_items"] [] := FRo.bindsN fun _ _ _ _ _ _ us hl => match us, hl with | [_, _], _ => rfl
  have bRH : L2.Binds K fdRH ["_law_hand_here", "_law_rows"] [] := FRH.bindsN fun _ _ _ _ _ _ us hl => match us, hl with | [_, _], _ => rfl
  have bW : L2.Binds K fdW ["self", "classes"] [] := FW.bindsN fun _ _ _ _ _ _ us hl => match us, hl with | [_, _], _ => rfl
  have bLI : L2.Binds K fdLI ["self", "world", "hues"] [] := FLI.bindsN fun _ _ _ _ _ _ us hl => match us, hl with | [_, _, _], _ => rfl
  have bK : L2.Binds K fdK ["_law_rows"] [] := FK.bindsN fun _ _ _ _ _ _ us hl => match us, hl with | [_], _ => rfl
  have bPA : L2.Binds K fdPA ["_law_kin_here", "_law_hues", "_law_among"] [] := FPA.bindsN fun _ _ _ _ _ _ us hl => match us, hl with | [_, _, _], _ => rfl
  have b3 : L2.Binds K fd3 ["_law_told", "_law_due"] [] := F3.bindsN fun _ _ _ _ _ _ us hl => match us, hl with | [_, _], _ => rfl
  have bE : L2.Binds K fdE ["_law_thing", "_law_due"] [] := FE.bindsN fun _ _ _ _ _ _ us hl => match us, hl with | [_, _], _ => rfl
  have bTo : L2.Binds K fdTo ["_law_ladders", "_law_kin_here", "_law_hues"] [] := FTo.bindsN fun _ _ _ _ _ _ us hl => match us, hl with | [_, _, _], _ => rfl
  refine F.ok sc_law (fun vs H Q E h => ?_) (fun cdv A outer s H vs Q E hr h => ?_)
  · obtain ⟨a, ns, rfl, _⟩ := h
    rfl
  · obtain ⟨a, ns, rfl, hA, hns, k⟩ := h
    refine ⟨_, PSs.nox (pss_cons (ps_set (i := 1) sc_law.nd rfl (Or.inl rfl) (pe_call GHa (hr.mono (by decide)) (by rfl) mHa FHa.kp bHa .nil pass0 (pa_cons (pv 0) pa_nil)))
      (pss_cons (ps_set (i := 2) sc_law.nd rfl (Or.inr rfl) (pe_call GCl (hr.mono (by decide)) (by rfl) mCl FCl.kp bCl .nil pass0 (pa_cons (pv 1) (pa_cons pe_int (pa_cons (pe_ix (r := rIxT K) ix_tup (pe_tup (pa_cons pe_int (pa_cons pe_int (pa_cons pe_int (pa_cons pe_int pa_nil))))) (pe_call GT (hr.mono (by decide)) (by rfl) mT FT.kp bT .nil pass0 (pa_cons (pv 1) (pa_cons pe_int pa_nil))) (fun _ _ => rfl)) (pa_cons pe_int (pa_cons pe_bl pa_nil)))))))
      (pss_cons (ps_set (i := 3) sc_law.nd rfl (Or.inl rfl) (pe_call GRH (hr.mono (by decide)) (by rfl) mRH FRH.kp bRH .nil pass0 (pa_cons (pv 1) (pa_cons (pv 2) pa_nil))))
      (pss_cons (ps_set (i := 4) sc_law.nd rfl (Or.inl rfl) (pe_make MLI GLI (hr.mono (by decide)) (by rfl) mLI bLI .nil (passOut (E := fun _ _ _ => False)) (pa_cons (pe_make MW GW (hr.mono (by decide)) (by rfl) mW bW .nil (passOut (E := fun _ _ _ => False)) (pa_cons (pv 2) pa_nil)) (pa_cons (pe_callTy (T := "list") (r := rListOf K) (call_lst (X := _)) (by rfl) B.list (by decide +kernel) (pa_cons (pv 3) pa_nil)) pa_nil))))
      (pss_cons (ps_if (pt_not (pt_val (pe_call GTo (hr.mono (by decide)) (by rfl) mTo FTo.kp bTo .nil pass0 (pa_cons (pv 4) (pa_cons (pe_call GK (hr.mono (by decide)) (by rfl) mK FK.kp bK .nil pass0 (pa_cons (pv 2) pa_nil)) (pa_cons (pv 3) pa_nil)))))) (pss_one (ps_ret pe_bl)) pss_nil)
      (pss_cons (ps_for PassesOwn.never rfl (pi_range1 (by rfl) B.range (pa_cons pe_int pa_nil)) (pg_name (i := 5) sc_law.nd rfl (Or.inl rfl))
        (pss_cons (ps_set (i := 6) sc_law.nd rfl (Or.inl rfl) (pe_call GBa (hr.mono (by decide)) (by rfl) mBa FBa.kp bBa .nil pass0 (pa_cons (pv 1) (pa_cons (pe_callB call_len_seq (by rfl) B.len PySem.boot_len (pa_cons (pv 2) pa_nil)) pa_nil))))
        (pss_cons (ps_set (i := 7) sc_law.nd rfl (Or.inl rfl) (pe_call GT (hr.mono (by decide)) (by rfl) mT FT.kp bT .nil pass0 (pa_cons (pv 1) (pa_cons pe_int pa_nil))))
        (pss_cons (ps_set (i := 8) sc_law.nd rfl (Or.inl rfl) (pe_call GMe (hr.mono (by decide)) (by rfl) mMe FMe.kp bMe .nil pass0 (pa_cons (pv 1) pa_nil)))
        (pss_cons (ps_set (i := 9) sc_law.nd rfl (Or.inl rfl) (pe_ix (r := rIxT K) ix_tup (pe_tup (pa_cons pe_non (pa_cons pe_int (pa_cons pe_int (pa_cons pe_int (pa_cons pe_int (pa_cons pe_int (pa_cons pe_int (pa_cons pe_int (pa_cons pe_int (pa_cons pe_int pa_nil))))))))))) (pe_call GT (hr.mono (by decide)) (by rfl) mT FT.kp bT .nil pass0 (pa_cons (pv 1) (pa_cons pe_int pa_nil))) (fun _ _ => rfl)))
        (pss_cons (ps_set (i := 10) sc_law.nd rfl (Or.inl rfl) (pe_op op_cat (pv 2) (pe_lst (pa_cons (pe_tup (pa_cons (pv 6) (pa_cons (pv 7) (pa_cons (pv 8) pa_nil)))) pa_nil))))
        (pss_cons (ps_set (i := 11) sc_law.nd rfl (Or.inl rfl) (pe_call GK (hr.mono (by decide)) (by rfl) mK FK.kp bK .nil pass0 (pa_cons (pv 10) pa_nil)))
        (pss_cons (ps_set (i := 12) sc_law.nd rfl (Or.inl rfl) (pe_call GPA (hr.mono (by decide)) (by rfl) mPA FPA.kp bPA .nil pass0 (pa_cons (pv 11) (pa_cons (pe_op op_cat (pv 3) (pe_lst (pa_cons (pv 9) pa_nil))) (pa_cons
          (pe_lc (own := [("_law_one", 13)]) (g := gName 13) (tt := tTest (tOp (rI0 fun i j => V.bl (decide (i < j))) (tVar 13) (tCB (rLenS K) (tCons (tVar 2) tNil)))) rfl sc_law.nd (pi_list (pe_ix (r := rIxL K) ix_list (pv 11) (pe_callB call_len_seq (by rfl) B.len PySem.boot_len (pa_cons (pv 2) pa_nil)) (fun _ _ => rfl))) (blkOk_by (N := ["_law_script", "_law_hand_here", "_law_rows", "_law_hues", "_law_ladders", "_law_step", "_law_bases_here", "_law_fields", "_law_methods_here", "_law_hue", "_law_more", "_law_kin_here", "_law_pair", "_law_one", "_law_due", "_law_later", "_law_told", "error"]) (sc := defScope (top 54)) (by decide +kernel))
            (fun _ _ _ _ _ => pg_name (i := 13) sc_law.nd rfl (Or.inl rfl)) (fun _ _ _ _ _ => ?tt) (fun _ _ _ _ _ => pv 13)) pa_nil)))))
        (pss_cons (ps_set (i := 14) sc_law.nd rfl (Or.inl rfl) (pe_ifExp (pt_cmpR op_isN (pv 12) pe_non (nomark _)) pe_non (pe_tup (pa_cons (pe_callB call_len_seq (by rfl) B.len PySem.boot_len (pa_cons (pv 2) pa_nil)) (pa_cons (pe_ix (r := rIxT K) ix_tup (pv 12) pe_int (fun _ _ => rfl)) (pa_cons (pe_ix (r := rIxT K) ix_tup (pv 12) pe_int (fun _ _ => rfl)) pa_nil))))))
        (pss_cons (ps_if (pt_not (pt_val (pe_call G3 (hr.mono (by decide)) (by rfl) m3 F3.kp b3 .nil pass0 (pa_cons (pe_meth (pv 4) TL.cl MCO GCO (hr.mono (by decide)) bCO .nil pass0 (pa_cons (pe_call GRo (hr.mono (by decide)) (by rfl) mRo FRo.kp bRo .nil pass0 (pa_cons (pv 1) (pa_cons (pv 6) pa_nil))) pa_nil)) (pa_cons (pv 14) pa_nil))))) (pss_one (ps_ret pe_bl)) pss_nil)
        (pss_cons (ps_set (i := 15) sc_law.nd rfl (Or.inl rfl) pe_non)
        (pss_cons (ps_set (i := 16) sc_law.nd rfl (Or.inl rfl) pe_non)
        (pss_cons (ps_try_as (i := 17) rfl rfl sc_law.nd rfl rfl ⟨rfl, by decide, .inl TX.mg⟩ takes0
            (fun W pn xe tk _ => pss_one (ps_set (te := tMethU Cl "with_class" (spWithL C Cl Cnl) (WE W) (tVar 4) (tCons (tCB (rListOf K) (tCons (tVar 6) tNil)) (tCons (tVar 7) (tCons (tCB (rListOf K) (tCons (tVar 8) tNil)) (tCons (tVar 9) tNil))))) (i := 15) sc_law.nd rfl (Or.inl rfl) ?body))
            (fun a oe cls d pn hz hf => pss_one (ps_set (i := 16) sc_law.nd rfl (Or.inl rfl) (pe_tup (pa_cons (pe_xf XX (TX.no _ (List.mem_of_getElem? (i := 0) rfl)) hz hf (pv 17)) (pa_cons (pe_xf XX (TX.no _ (List.mem_of_getElem? (i := 1) rfl)) hz hf (pv 17)) (pa_cons (pe_xf XX (TX.no _ (List.mem_of_getElem? (i := 2) rfl)) hz hf (pv 17)) pa_nil)))))))
        (pss_cons (ps_if (PW.pt (pw_or (pt_not (pt_val (pe_call GE1 (hr.mono (by decide)) (by rfl) mE FE.kp bE .nil pass0 (pa_cons (pv 16) (pa_cons (pv 14) pa_nil))))) (pw_or1 (pt_not (pt_val (pe_call GE1 (hr.mono (by decide)) (by rfl) mE FE.kp bE .nil pass0 (pa_cons (pe_fld (pv 4) rfl) (pa_cons (pe_callTy (T := "tuple") (r := rTupOf K) (call_tup (X := _)) (by rfl) B.tuple (by decide +kernel) (pa_cons (pv 3) pa_nil)) pa_nil)))))))) (pss_one (ps_ret pe_bl)) pss_nil)
        (pss_one (ps_if (pt_cmpR op_notN (pv 15) pe_non (nomark _))
          (pss_cons (ps_if (pt_not (pt_val (pe_call GTo (hr.mono (by decide)) (by rfl) mTo FTo.kp bTo .nil pass0 (pa_cons (pv 4) (pa_cons (pe_call GK (hr.mono (by decide)) (by rfl) mK FK.kp bK .nil pass0 (pa_cons (pv 2) pa_nil)) (pa_cons (pv 3) pa_nil)))))) (pss_one (ps_ret pe_bl)) pss_nil)
          (pss_cons (ps_set (i := 4) sc_law.nd rfl (Or.inl rfl) (pv 15))
          (pss_cons (ps_set (i := 2) sc_law.nd rfl (Or.inr rfl) (pv 10))
          (pss_cons (ps_set (i := 3) sc_law.nd rfl (Or.inl rfl) (pe_op op_cat (pv 3) (pe_lst (pa_cons (pv 9) pa_nil))))
          (pss_cons (ps_if (PW.pt (pw_or (pt_not (pt_val (pe_call GE1 (hr.mono (by decide)) (by rfl) mE FE.kp bE .nil pass0 (pa_cons (pe_fld (pv 4) rfl) (pa_cons (pe_callTy (T := "tuple") (r := rTupOf K) (call_tup (X := _)) (by rfl) B.tuple (by decide +kernel) (pa_cons (pv 3) pa_nil)) pa_nil))))) (pw_or1 (pt_not (pt_cmpR (r := rEqG (DIns C (REq C))) (op_eqW GQ eqC eqF bQ (hr.mono (by decide))) (pe_fld (pv 4) rfl) (pe_make MW GW (hr.mono (by decide)) (by rfl) mW bW .nil (passOut (E := fun _ _ _ => False)) (pa_cons (pv 2) pa_nil)) (nomark _)))))) (pss_one (ps_ret pe_bl)) pss_nil)
          (pss_one (ps_if (pt_not (pt_val (pe_call GTo (hr.mono (by decide)) (by rfl) mTo FTo.kp bTo .nil pass0 (pa_cons (pv 4) (pa_cons (pv 11) (pa_cons (pv 3) pa_nil)))))) (pss_one (ps_ret pe_bl)) pss_nil))))))) pss_nil))))))))))))))))
      (pss_one (ps_ret pe_bl)))))))), ?_⟩
    case tt => exact pts_one (pt_cmpR (r := rI0 fun i j => V.bl (decide (i < j))) op_lt (pv 13) (pe_callB (id := "len") (r := rLenS K) (call_lenS (X := _)) (by rfl) B.len PySem.boot_len (pa_cons (pv 2) pa_nil)) (nomark _))
    case body =>
      refine pe_methU (pv 4) TL.cl MWL GWL hr bWL (fun σ => passAt (by assumption) σ) ?_
      exact pa_cons (pe_callTy (T := "list") (r := rListOf K) (call_lst (X := _)) (by rfl) B.list (by decide +kernel) (pa_cons (pv 6) pa_nil)) (pa_cons (pv 7) (pa_cons (pe_callTy (T := "list") (r := rListOf K) (call_lst (X := _)) (by rfl) B.list (by decide +kernel) (pa_cons (pv 8) pa_nil)) (pa_cons (pv 9) pa_nil)))
    -- the hand, the rows
    refine ⟨_, rfl, a, ns, rfl, hA, hns, fun p q H1 s1 hp hq hh => ?_⟩
    refine ⟨_, rfl, (by show 4 ≤ sizeLine; decide), fun t ht => ?_⟩
    obtain ⟨tp, tq⟩ := hh.ne ht
    refine ⟨_, rfl, p, q, 4, rfl, by decide, by decide, hh.upd tp tq, fun r H2 r0 r1 h2 e2 => ?_⟩
    obtain ⟨v, hv, hm⟩ := tab_at (tab := [5, 5, 6, 8]) r0 r1
    have T2 : H2 t = some (.tup (([5, 5, 6, 8] : List Int).map V.int)) := by
      rw [e2 t tp]
      exact upd_same
    have hv5 : 5 ≤ v ∧ v ≤ 8 := (by decide : ∀ v ∈ ([5, 5, 6, 8] : List Int), 5 ≤ v ∧ v ≤ 8) v hm
    obtain ⟨vn, rfl⟩ : ∃ n : Nat, v = (n : Int) := ⟨v.toNat, by omega⟩
    refine ⟨t, _, r, _, rfl, rfl, SqT.of T2, hv, p, q, 1, vn, 8, true, rfl, by decide, by omega, by omega, h2, fun l H3 us ds O3 h3 hl hl3 hR lo1 hi1 ok => ?_⟩
    obtain ⟨lp, lq⟩ := h2.ne hl
    have n8 : ds.length ≤ 8 := by omega
    -- the hues
    refine ⟨_, rfl, _, rfl, p, q, l, us, ds, rfl, h3, lp, hl3, hR, ok, n8, fun R H4 hs O4 h4 hRn hR4 hsl h8 hC => ?_⟩
    have k34 := KI.oth O4 h3
    have hl4 := k34 _ _ hl3 (nh_refs hR.refs)
    have hRw4 : RwN l H4 us ds := hR.ki k34
    have lok : LadOk ds hs := ⟨ok, hsl, by omega, h8⟩
    -- the ladders
    refine ⟨_, rfl, fun wp wdx hwp hwdx wne => world_q hl4 hRw4 ok lo1 (by omega) hwp hwdx wne fun H5 s5 hW5 => ⟨rfl, ?_⟩⟩
    refine ⟨_, rfl, R, _, rfl, .inl (SqL.of (s5 _ _ hR4)), fun l2 hl2 ql dql hql hdql lne => ?_⟩
    have sl2 := same_new (o := .lst (hs.map hV)) hl2
    have s6 := ((s5.trans sl2).trans (same_new (o := .own ql) hdql)).trans (same_new (o := .ins Cl dql []) (by rw [upd_ne (Ne.symm lne)]; exact hql))
    have s56 := (sl2.trans (same_new (o := .own ql) hdql)).trans (same_new (o := .ins Cl dql []) (by rw [upd_ne (Ne.symm lne)]; exact hql))
    have L6 : upd (upd (upd H5 l2 (.lst (hs.map hV))) dql (.own ql)) ql (.ins Cl dql []) l2 = some (.lst (hs.map hV)) := (same_new (o := .own ql) hdql).trans (same_new (o := .ins Cl dql []) (by rw [upd_ne (Ne.symm lne)]; exact hql)) _ _ upd_same
    have Q6 : upd (upd (upd H5 l2 (.lst (hs.map hV))) dql (.own ql)) ql (.ins Cl dql []) ql = some (.ins Cl dql []) := upd_same
    have hW6 := hW5.mono s56
    have qlp : ql ≠ wp := fun z => by
      obtain ⟨_, _, _, _, _, _, _, _, _, _, _, _, g1, _⟩ := hW5
      have := sl2 _ _ g1
      rw [← z, hql] at this
      cases this
    have qll : ql ≠ l2 := fun z => by
      rw [z, upd_same] at hql
      cases hql
    have hql5 : H5 ql = none := by
      cases e : H5 ql with
      | none => rfl
      | some o =>
        rw [sl2 _ _ e] at hql
        cases hql
    generalize upd (upd (upd H5 l2 (.lst (hs.map hV))) dql (.own ql)) ql (.ins Cl dql []) = G6 at s6 s56 L6 Q6 hW6 ⊢
    refine ⟨ql, dql, wp, l2, ds, hs, rfl, Q6, qlp, qll, hW6, ok.valid, .inl L6, hsl, by omega, h8, fun _ t6 H7 O7 hq7 ht7 => ⟨rfl, ?_⟩, fun c x y hC2 => by cases hC.one hC2⟩
    have s57 : Same H5 H7 := fun b u e => O7 b u (ne_of_none e hql5) (s56 _ _ e)
    have s47 := s5.trans s57
    have hLad7 : LadAt H7 ql Cl C wp ds hs := ⟨dql, t6, hq7, ht7, hW5.mono s57⟩
    have hl7 := s47 _ _ hl4
    have hRw7 : RwN l H7 us ds := hRw4.ki (KI.of s47)
    have hR7 := s47 _ _ hR4
    have kok : ∀ {ds : List Ent}, DsOk ds → KinsOk (kins (elsOf ds)) := fun ok => ok.kins
    -- told_right of the ladders at hand, with the kin of the rows
    refine ⟨_, rfl, _, rfl, l, us, ds.map (·.1), rfl, hl7, hRw7.rows, ok.valid, by rw [List.length_map]; omega, fun row hr => by have := ok.short row hr; omega, fun H8 ak kus s8 hak hak8 hne hL => ?_⟩
    refine ⟨_, rfl, ql, wp, ak, R, kus, ds, hs, rfl, hLad7.mono s8, lok, ⟨hak8, hL, s8 _ _ hR7, by rw [kinsL]; exact hsl, by rw [kinsL]; omega, ok.kins⟩, hC, fun H9 s9 => ⟨_, rfl, iteF' rfl ?_⟩⟩
    have s79 := s8.trans s9
    refine ⟨3, rfl, by decide, by decide, ?_⟩
    refine for_range (n := 3) (fun i σ H' => ∃ l us ds R hs ql wp x5 x6 x7 x8 x9 x10 x11 x12 x14 x15 x16, σ = [some (.ref a), some (.ref p), some (.ref l), some (.ref R), some (.ref ql), x5, x6, x7, x8, x9, x10, x11, x12, none, x14, x15, x16, none] ∧ LawSt C Cl H' p q l us ds R hs ql wp ∧ 1 ≤ ds.length ∧ ds.length ≤ 8 + i)
      ⟨l, us, ds, R, hs, ql, wp, _, _, _, _, _, _, _, _, _, _, _, rfl, ⟨(h4.same s47).same s79, s79 _ _ hl7, hRw7.ki (KI.of s79), s79 _ _ hR7, hLad7.mono s79, lok, hC⟩, lo1, n8⟩ ?_ ?_
    · clear hLad7 hl7 hRw7 hR7 lok hC hL hak8 hne h8 hsl hW6 hW5 L6 Q6 hq7 ht7
      rintro i σ H0 hi ⟨l, us, ds, R, hs, ql, wp, x5, x6, x7, x8, x9, x10, x11, x12, x14, x15, x16, rfl, ⟨hh0, hl0, hRw0, hRh0, hLad0, lok, hC⟩, lo1, hlen⟩
      have usl : us.length = ds.length := hRw0.len
      have ok := lok.ok
      have hsl := lok.len
      -- a class more
      refine ⟨_, rfl, _, rfl, l, us, rfl, .inl (SqL.of hl0), p, q, us.length, rfl, by omega, hh0, fun bl H2 bs O2 h2 hbl hbl2 bnd blt b3 => ?_⟩
      have k02 := KI.oth O2 hh0
      refine ⟨_, rfl, p, q, 4, rfl, by decide, by decide, h2, fun fl0 H3 f0 f1 h3 e3 => ?_⟩
      have k03 := k02.trans (KI.oth (Oth.take e3) h2)
      have k23 := KI.oth (Oth.take e3) h2
      obtain ⟨fl, rfl⟩ : ∃ n : Nat, fl0 = (n : Int) := ⟨fl0.toNat, by omega⟩
      refine ⟨_, rfl, p, q, rfl, h3, fun ml H4 ms O4 h4 hml hml4 mup m6 m3 => ?_⟩
      have k04 := k03.trans (KI.oth O4 h3)
      have k24 := k23.trans (KI.oth O4 h3)
      refine ⟨(by show 10 ≤ sizeLine; decide), fun t ht => ?_⟩
      obtain ⟨tp, tq⟩ := h4.ne ht
      have st : Same H4 (upd H4 t (.tup (hueTab.map hV))) := same_new ht
      refine ⟨_, rfl, p, q, 10, rfl, by decide, by decide, h4.upd tp tq, fun r H5 r0 r1 h5 e5 => ?_⟩
      obtain ⟨o, ho, ho8⟩ := hueTab_at r0 r1
      have T5 : H5 t = some (.tup (hueTab.map hV)) := by
        rw [e5 t tp]
        exact upd_same
      have k45 := (KI.of st).trans (KI.oth (Oth.take e5) (h4.same st))
      have k05 := k04.trans k45
      have k25 := k24.trans k45
      refine ⟨t, _, r, _, rfl, rfl, SqT.of T5, ho, ?_⟩
      have hl5 := k05 _ _ hl0 (nh_refs hRw0.refs)
      have hRw5 : RwN l H5 us ds := hRw0.ki k05
      have hRh5 := k05 _ _ hRh0 nh_hues
      have hLad5 := hLad0.ki k05
      have hbl5 := k25 _ _ hbl2 nh_nats
      have hml5 := k45 _ _ hml4 nh_nats
      have blp : bl ≠ p := (hh0.ne hbl).1
      clear T5 e5 e3 k04 k24 k45 st k23 k03 k02
      -- more
      have size13 : 13 ≤ sizeLine := by decide
      refine ⟨_, rfl, _, rfl, _, rfl, _, rfl, (by show 3 ≤ sizeLine; decide), fun T hT => ⟨(by show 1 ≤ sizeLine; decide), fun L1 hL1 => ?_⟩⟩
      have sT := same_new (o := .tup [.ref bl, V.int (fl : Int), .ref ml]) hT
      have sL1 := same_new (o := .lst [.ref T]) hL1
      refine ⟨l, L1, us, [.ref T], rfl, rfl, sL1 _ _ (sT _ _ hl5), upd_same, (by rw [usl]; show _ + 1 ≤ sizeLine; omega), fun m hm => ?_⟩
      have sm := same_new (o := .lst (us ++ [.ref T])) hm
      have s56 := (sT.trans sL1).trans sm
      have T6 : upd (upd (upd H5 T (.tup [.ref bl, V.int (fl : Int), .ref ml])) L1 (.lst [.ref T])) m (.lst (us ++ [.ref T])) T = some (.tup [.ref bl, V.int (fl : Int), .ref ml]) := sm _ _ (sL1 _ _ upd_same)
      have M6 : upd (upd (upd H5 T (.tup [.ref bl, V.int (fl : Int), .ref ml])) L1 (.lst [.ref T])) m (.lst (us ++ [.ref T])) m = some (.lst (us ++ [.ref T])) := upd_same
      have hRm : RwN m (upd (upd (upd H5 T (.tup [.ref bl, V.int (fl : Int), .ref ml])) L1 (.lst [.ref T])) m (.lst (us ++ [.ref T]))) (us ++ [.ref T]) (ds ++ [((bs, fl, ms) : Ent)]) := by
        refine (((hRw5.ki (KI.of (sT.trans sL1))).new hm).ki (KI.of sm)).app (.cons ⟨T, bl, ml, rfl, ?_, T6, ?_, s56 _ _ hbl5, ?_, s56 _ _ hml5⟩ .nil)
        · exact ne_of_none (sL1 _ _ upd_same) hm
        · exact ne_of_none (sL1 _ _ (sT _ _ hbl5)) hm
        · exact ne_of_none (sL1 _ _ (sT _ _ hml5)) hm
      generalize upd (upd (upd H5 T (.tup [.ref bl, V.int (fl : Int), .ref ml])) L1 (.lst [.ref T])) m (.lst (us ++ [.ref T])) = H6 at s56 T6 M6 hRm ⊢
      have eok : EOk ds.length (bs, fl, ms) := ⟨bnd, (by rw [← usl]; exact blt), b3, by show fl ≤ 3; omega, mup, m6, m3⟩
      have okD : DsOk (ds ++ [((bs, fl, ms) : Ent)]) := ok.app eok
      have dl : (ds ++ [((bs, fl, ms) : Ent)]).length = ds.length + 1 := by rw [List.length_append, List.length_singleton]
      have n11 : ds.length + 1 ≤ 11 := by omega
      generalize hd : ((bs, fl, ms) : Ent) = d at hRm eok okD dl
      -- kin
      refine ⟨_, rfl, m, _, (ds ++ [d]).map (·.1), rfl, M6, hRm.rows, okD.valid, by rw [List.length_map, dl]; omega, fun row hr => by have := okD.short row hr; omega, fun H7 ak kus s7 hak hak7 hne hL => ?_⟩
      have s57 := s56.trans s7
      have hL : ListsAt H7 kus (kins (elsOf (ds ++ [d]))) := hL
      have kl : (kins (elsOf (ds ++ [d]))).length = ds.length + 1 := by rw [kinsL, dl]
      have nk : ds.length < (ds ++ [d]).length := by omega
      -- the pair
      refine ⟨_, rfl, _, rfl, _, rfl, (by show 1 ≤ sizeLine; decide), fun L2 hL2 => ?_⟩
      have sL2 := same_new (o := .lst [hV o]) hL2
      refine ⟨R, L2, hs.map hV, [hV o], rfl, rfl, sL2 _ _ (s57 _ _ hRh5), upd_same, (by rw [List.length_map, hsl]; show _ + 1 ≤ sizeLine; omega), fun hm2 hhm => ?_⟩
      have shm := same_new (o := .lst (hs.map hV ++ [hV o])) hhm
      have s78 := sL2.trans shm
      have HM8 : upd (upd H7 L2 (.lst [hV o])) hm2 (.lst (hs.map hV ++ [hV o])) hm2 = some (.lst ((hs ++ [o]).map hV)) := by
        rw [upd_same, List.map_append]
        rfl
      generalize upd (upd H7 L2 (.lst [hV o])) hm2 (.lst (hs.map hV ++ [hV o])) = H8 at s78 HM8 ⊢
      have s58 := s57.trans s78
      have hl8 := s58 _ _ hl5
      obtain ⟨row, hrow⟩ : ∃ row, (kins (elsOf (ds ++ [d])))[ds.length]? = some row := ⟨_, List.getElem?_eq_getElem (by omega)⟩
      have hgd : (kins (elsOf (ds ++ [d]))).getD ds.length [] = row := by
        rw [List.getD_eq_getElem?_getD, hrow]
        rfl
      obtain ⟨tr, etr, htr⟩ := hL.get hrow
      have htr8 := s78 _ _ htr
      have rowle : ∀ x ∈ row, x ≤ ds.length := fun x hx => okD.kins.le _ (by omega) x (by rw [hgd]; exact hx)
      have row12 : row.length ≤ 12 := by
        have := kin_len okD nk (by omega)
        rw [hgd] at this
        exact this
      have efil : row.filter (fun x => decide (x < ds.length)) = (elsOf (ds ++ [d])).getD ds.length [] := by
        rw [← hgd]
        exact filter_els nk
      refine ⟨_, rfl, _, rfl, l, us, rfl, .inl (SqL.of hl8), ak, kus, _, _, rfl, rfl, SqL.of (s78 _ _ hak7), (by rw [usl]; exact atI_nat etr), tr, rfl, ⟨_, SqL.of htr8⟩, fun D hD => lc_list (K := K) (a := tr) (xs := row.map natV) (fun j H9 => Same H8 H9 ∧ H9 D = some (.lst (((row.take j).filter fun x => decide (x < ds.length)).map natV))) ⟨same_new hD, upd_same⟩ (fun j H9 _ z => SqL.of (z.1 _ _ htr8)) ?_ ?_⟩
      · rintro j y H9 hj ⟨s9, hD9⟩
        rw [List.getElem?_map] at hj
        obtain ⟨x, hx, rfl⟩ := Option.map_eq_some_iff.mp hj
        refine ⟨rfl, _, rfl, _, rfl, l, us, rfl, .inl (SqL.of (s9 _ _ hl8)), _, _, rfl, rfl, _, rfl, ?_⟩
        have step : (row.take (j + 1)).filter (fun x => decide (x < ds.length)) = (row.take j).filter (fun x => decide (x < ds.length)) ++ (if decide (x < ds.length) = true then [x] else []) := by
          rw [List.take_add_one, hx, Option.toList_some, List.filter_append]
          congr 1
          cases e : decide (x < ds.length) with
          | true => rw [List.filter_cons_of_pos (by exact e)]; rfl
          | false => rw [List.filter_cons_of_neg (by rw [e]; decide)]; rfl
        by_cases c : x < ds.length
        · rw [if_pos (decide_eq_true c)] at step
          refine iteT' (decide_eq_true (by omega)) ⟨_, rfl, _, hD9, ?_, same_upd s9 hD, ?_⟩
          · rw [List.length_map]
            refine Nat.lt_of_le_of_lt (List.length_filter_le _ _) ?_
            rw [List.length_take]
            show _ < 2 ^ 24
            omega
          · rw [step, List.map_append, upd_same]
            rfl
        · rw [if_neg (by rw [decide_eq_true_eq]; exact c), List.append_nil] at step
          exact iteF' (decide_eq_false (by omega)) ⟨s9, by rw [step]; exact hD9⟩
      rintro H9 ⟨s9, hD9⟩
      rw [List.length_map, List.take_length, efil] at hD9
      have s79 := s78.trans s9
      have upE : ((elsOf (ds ++ [d])).getD ds.length []).Pairwise (· < ·) := by
        rw [← efil, ← hgd]
        exact List.Pairwise.filter _ (okD.kins.up _ (by omega))
      have inE : ∀ x ∈ (elsOf (ds ++ [d])).getD ds.length [], x < ds.length := fun x hx => elders_below hx
      refine ⟨ak, hm2, D, kus, _, hs ++ [o], _, rfl, s79 _ _ hak7, ListsAt.sameAll s79 hL, s9 _ _ HM8, hD9, upE, fun x hx => ⟨by have := inE x hx; omega, by have := inE x hx; rw [List.length_append, List.length_singleton]; omega⟩, fun v H10 o2 s10 hO hLe => ?_⟩
      have hLe : Least (condL (kins (elsOf (ds ++ [d]))) hs) ((elsOf (ds ++ [d])).getD ds.length []) o2 := hLe.congr fun a ha b hb => condL_hs (hue_app (by have := inE a ha; omega)) (hue_app (by have := inE b hb; omega))
      have s510 := (s58.trans s9).trans s10
      have hl10 := s510 _ _ hl5
      -- due
      refine ⟨_, rfl, rfl, _, rfl, ?_⟩
      refine due_q (n := ds.length) (fun {H' Q'} s' hq' => ⟨l, us, rfl, .inl (SqL.of (s' _ _ hl10)), by rw [usl]; exact hq'⟩) rfl rfl hO (fun z hz => by
        rcases hLe with ⟨e, _⟩ | ⟨x, y, e, _⟩
        · rw [e] at hz; cases hz
        · rw [e] at hz; exact ⟨x, y, (Option.some.inj hz).symm⟩) fun dv H11 s11 hdv => ?_
      have s511 := s510.trans s11
      have hLad11 := hLad5.mono s511
      have hLad11' := hLad11
      obtain ⟨dq, hut, q1, q2, hw11⟩ := hLad11'
      -- clash_of
      refine ⟨_, rfl, ql, dq, _, rfl, q1, rfl, _, rfl, _, rfl, p, q, bl, _, rfl, h5.same s511, blp, .inl (s511 _ _ hbl5), fun rl H12 O12 h12 hrl => ?_⟩
      have k1112 := KI.oth O12 (h5.same s511)
      have hrl12 : SeqAt H12 rl (bs.map natV) := hrl.elim (fun z => .inl z.2) .inr
      have eok0 : EOk ds.length (bs, 0, []) := ⟨bnd, (by rw [← usl]; exact blt), b3, Nat.zero_le _, .nil, (fun m hm => by cases hm), Nat.zero_le _⟩
      refine ⟨ql, wp, rl, ds, hs, bs, rfl, hLad11.ki k1112, lok, by omega, hrl12, eok0, fun v2 H13 o1 s13 hLe1 hO1 => ?_⟩
      rw [els_fst (ds := ds) (d := ((bs, 0, []) : Ent)) (e := d) (by rw [← hd])] at hLe1
      obtain rfl : o1 = o2 := hLe1.one hLe
      have k1113 := k1112.trans (KI.of s13)
      have hdv13 : OptTup H13 dv (o1.map (ds.length :: ·)) := by
        rcases hdv with z | ⟨z, t, e1, e2, h⟩
        · exact .inl z
        · exact .inr ⟨z, t, e1, e2, k1113 _ _ h nh_tup⟩
      refine ⟨_, rfl, v2, dv, _, rfl, hO1, hdv13, fun H14 s14 => ⟨_, rfl, iteF' rfl ?_⟩⟩
      have k514 := ((KI.of s511).trans k1113).trans (KI.of s14)
      have hLad14 := hLad5.ki k514
      have hLad14' := hLad14
      obtain ⟨dq14, hut14, q114, q214, hw14⟩ := hLad14'
      have hh14 : HandAt H14 p q := ((h12.same s13).same s14)
      have hdv14 := hdv13.same s14
      have hbl14 := k514 _ _ hbl5 nh_nats
      have hml14 := k514 _ _ hml5 nh_nats
      -- with_class
      refine ⟨_, rfl, ql, dq14, _, rfl, q114, rfl, _, rfl, bl, _, rfl, .inl (SqL.of hbl14), fun b2 hb2 => ?_⟩
      have sb2 := same_new (o := .lst (bs.map natV)) hb2
      refine ⟨_, rfl, _, rfl, ml, _, rfl, .inl (SqL.of (sb2 _ _ hml14)), fun m2 hm2' => ?_⟩
      have sm2 := same_new (o := .lst (ms.map natV)) hm2'
      have sbm := sb2.trans sm2
      have B15 : upd (upd H14 b2 (.lst (bs.map natV))) m2 (.lst (ms.map natV)) b2 = some (.lst (d.1.map natV)) := by
        rw [← hd]
        exact sm2 _ _ upd_same
      have M15 : upd (upd H14 b2 (.lst (bs.map natV))) m2 (.lst (ms.map natV)) m2 = some (.lst (d.2.2.map natV)) := by
        rw [← hd]
        exact upd_same
      have efl : natV fl = natV d.2.1 := by rw [← hd]
      generalize upd (upd H14 b2 (.lst (bs.map natV))) m2 (.lst (ms.map natV)) = H15 at sbm B15 M15 ⊢
      -- what stands behind, whichever way
      have same_end : ∀ H20, KI H5 H20 → HandAt H20 p q → LawSt C Cl H20 p q l us ds R hs ql wp := fun H20 kk hh20 => ⟨hh20, kk _ _ hl5 (nh_refs hRw5.refs), hRw5.ki kk, kk _ _ hRh5 nh_hues, hLad5.ki kk, lok, hC⟩
      refine ⟨_, rfl, ql, wp, b2, m2, ds, hs, d, o, o1, by rw [← efl]; rfl, hLad14.mono sbm, lok, hC, by omega, .inl B15, .inl M15, eok, ho8, hLe, fun eo q' p' H16 s16 hLad' => ?_, fun x y eo ed H16 s16 he => ?_⟩
      · -- a class more
        subst eo
        have k516 := (k514.trans (KI.of sbm)).trans (KI.of s16)
        have s1416 := sbm.trans s16
        obtain ⟨e1, e2⟩ : dv = .non ∧ True := by
          rcases hdv14 with ⟨_, z⟩ | ⟨z, t, e1, _⟩
          · exact ⟨z, trivial⟩
          · cases e1
        subst e1
        refine ⟨_, rfl, _, rfl, _, _, rfl, Exact.flat 1 True.intro, fun H17 s17 => ⟨_, rfl, iteF' rfl ?_⟩⟩
        have s1417 := s1416.trans s17
        refine ⟨_, rfl, ql, Cl, dq14, _, _, rfl, s1417 _ _ q114, TL.cl, TL.no _ (List.mem_of_getElem? (i := 1) rfl), rfl, _, rfl, ?_⟩
        have hRh17 := (k516.trans (KI.of s17)) _ _ hRh5 nh_hues
        refine tup_q (.inl hRh17) fun t2 H18 s18 ht2 => ⟨_, _, rfl, Exact.tup 0 (s18 _ _ (s1417 _ _ q214)) ht2 (fun x hx => by obtain ⟨o, _, rfl⟩ := List.mem_map.mp hx; exact flat_hV o) (by rw [List.length_map]; omega), fun H19 s19 => ⟨_, rfl, iteF' rfl ?_⟩⟩
        have s1619 := (s17.trans s18).trans s19
        have k519 := k516.trans (KI.of s1619)
        refine ⟨_, rfl, rfl, _, rfl, iteT' rfl ?_⟩
        have hRw19 : RwN l H19 us ds := hRw5.ki k519
        refine ⟨_, rfl, _, rfl, l, us, ds.map (·.1), rfl, k519 _ _ hl5 (nh_refs hRw5.refs), hRw19.rows, ok.valid, by rw [List.length_map]; omega, fun row hr => by have := ok.short row hr; omega, fun H20 ak2 kus2 s20 hak2 hak20 hne2 hL2' => ?_⟩
        have k520 := k519.trans (KI.of s20)
        refine ⟨_, rfl, ql, wp, ak2, R, kus2, ds, hs, rfl, hLad5.ki k520, lok, ⟨hak20, hL2', k520 _ _ hRh5 nh_hues, by rw [kinsL]; exact hsl, by rw [kinsL]; omega, ok.kins⟩, hC, fun H21 s21 => ⟨_, rfl, iteF' rfl ?_⟩⟩
        have k521 := k520.trans (KI.of s21)
        have s1621 := (s1619.trans s20).trans s21
        have hLad21 := hLad'.mono s1621
        -- the longer ones
        refine ⟨_, rfl, _, rfl, _, rfl, _, rfl, (by show 1 ≤ sizeLine; decide), fun L3 hL3 => ?_⟩
        have sL3 := same_new (o := .lst [hV o]) hL3
        refine ⟨R, L3, hs.map hV, [hV o], rfl, rfl, sL3 _ _ (k521 _ _ hRh5 nh_hues), upd_same, (by rw [List.length_map, hsl]; show _ + 1 ≤ sizeLine; omega), fun R2 hR2 => ?_⟩
        have sR2 := same_new (o := .lst (hs.map hV ++ [hV o])) hR2
        have s2122 := sL3.trans sR2
        have R22 : upd (upd H21 L3 (.lst [hV o])) R2 (.lst (hs.map hV ++ [hV o])) R2 = some (.lst ((hs ++ [o]).map hV)) := by
          rw [upd_same, List.map_append]
          rfl
        generalize upd (upd H21 L3 (.lst [hV o])) R2 (.lst (hs.map hV ++ [hV o])) = H22 at s2122 R22 ⊢
        have k522 := k521.trans (KI.of s2122)
        have hLad22 := hLad21.mono s2122
        have hLad22' := hLad22
        obtain ⟨dq2, ut2, r1', r2', w22⟩ := hLad22'
        have lok2 : LadOk (ds ++ [d]) (hs ++ [o]) := ⟨okD, by rw [List.length_append, List.length_singleton, dl, hsl], by omega, fun o' ho' h e => by
          rcases List.mem_append.mp ho' with ho' | ho'
          · exact lok.hue o' ho' h e
          · rw [List.mem_singleton.mp ho'] at e
            exact ho8 h e⟩
        have hC2 : FirstC (kins (elsOf (ds ++ [d]))) (hs ++ [o]) none := firstC_more okD hsl hC hLe
        refine ⟨_, rfl, q', Cl, dq2, _, _, rfl, r1', TL.cl, TL.no _ (List.mem_of_getElem? (i := 1) rfl), rfl, _, rfl, ?_⟩
        refine tup_q (.inl R22) fun t3 H23 s23 ht3 => ⟨_, _, rfl, Exact.tup 0 (s23 _ _ r2') ht3 (fun x hx => by obtain ⟨o, _, rfl⟩ := List.mem_map.mp hx; exact flat_hV o) (by rw [List.length_map, lok2.len, dl]; omega), fun H24 s24 => ⟨_, rfl, iteF' rfl ?_⟩⟩
        have s2224 := s23.trans s24
        have k524 := k522.trans (KI.of s2224)
        have k624 : KI H6 H24 := by
          have z1 := (KI.of (s7.trans s79)).trans (KI.of (s10.trans s11))
          have z2 := (z1.trans k1113).trans (KI.of s14)
          have z3 := (z2.trans (KI.of s1416)).trans (KI.of s1621)
          exact (z3.trans (KI.of s2122)).trans (KI.of s2224)
        have hM24 := k624 _ _ M6 (nh_refs hRm.refs)
        have hRm24 : RwN m H24 (us ++ [.ref T]) (ds ++ [d]) := hRm.ki k624
        refine ⟨_, rfl, q', Cl, dq2, _, _, rfl, s2224 _ _ r1', TL.cl, TL.no _ (List.mem_of_getElem? (i := 0) rfl), rfl, _, rfl, fun wp2 wdx2 hwp2 hwdx2 wne2 => world_q hM24 hRm24 okD (by omega) (by omega) hwp2 hwdx2 wne2 fun H25 s25 hW25 => ⟨rfl, ?_⟩⟩
        have w25 := w22.mono (s2224.trans s25)
        have w25' := w25
        obtain ⟨dxa, _, _, _, _, _, _, _, _, _, _, _, ga, _⟩ := w25'
        have hW25' := hW25
        obtain ⟨dxb, _, _, _, _, _, _, _, _, _, _, _, gb, _⟩ := hW25'
        refine ⟨⟨p', wp2, dxa, dxb, _, _, rfl, rfl, ga, gb, ds ++ [d], w25, hW25⟩, fun H26 ext => ⟨_, rfl, iteF' rfl ?_⟩⟩
        have s2426 : Same H24 H26 := s25.trans fun b u e => ext b u e
        have k726 : KI H7 H26 := by
          have z1 := (KI.of s79).trans (KI.of (s10.trans s11))
          have z2 := (z1.trans k1113).trans (KI.of s14)
          have z3 := (z2.trans (KI.of s1416)).trans (KI.of s1621)
          exact (z3.trans (KI.of (s2122.trans s2224))).trans (KI.of s2426)
        have s2226 := s2224.trans s2426
        have hKin7 : KinH H26 ak R2 kus (kins (elsOf (ds ++ [d]))) (hs ++ [o]) := ⟨k726 _ _ hak7 (nh_refs hL.refs), hL.ki k726, s2226 _ _ R22, by rw [lok2.len, kinsL], by rw [kl]; omega, okD.kins⟩
        refine ⟨_, rfl, _, rfl, _, rfl, q', p', ak, R2, kus, ds ++ [d], hs ++ [o], rfl, hLad22.mono s2226, lok2, hKin7, hC2, fun H27 s27 => ⟨_, rfl, iteF' rfl ?_⟩⟩
        have s2427 := s2426.trans s27
        have k1427 : Same H14 H27 := ((s1416.trans s1621).trans s2122).trans (s2226.trans s27)
        exact ⟨m, _, ds ++ [d], R2, hs ++ [o], q', p', _, _, _, _, _, _, _, _, _, _, _, rfl, ⟨hh14.same k1427, s2427 _ _ hM24, hRm24.ki (KI.of s2427), (s2226.trans s27) _ _ R22, hLad22.mono (s2226.trans s27), lok2, hC2⟩, by omega, by omega⟩
      · -- a clash
        subst eo
        have s1416 := sbm.trans s16
        refine ⟨true, exN, fun _ ea hea => ?_, fun q => nomatch q⟩
        refine ⟨_, rfl, rfl, rfl, ed, _, _, rfl, he, rfl, _, rfl, rfl, rfl, ed, _, _, rfl, he, rfl, _, rfl, rfl, rfl, ed, _, _, rfl, he, rfl, (by show 3 ≤ sizeLine; decide), fun U hU => ?_⟩
        have sU := same_new (o := .tup [natV ds.length, natV x, natV y]) hU
        rcases hdv14 with ⟨z, _⟩ | ⟨z, tdv, ez, rfl, htdv⟩
        · cases z
        · obtain rfl := Option.some.inj ez
          refine ⟨_, rfl, _, rfl, _, _, rfl, Exact.tup 0 upd_same (sU _ _ (s1416 _ _ htdv)) (fun v hv => ?_) (by show 3 ≤ 1000; decide), fun H17 s17 => ⟨_, rfl, iteF' rfl ?_⟩⟩
          · have hv : v ∈ [ds.length, x, y].map natV := hv
            obtain ⟨n, _, rfl⟩ := List.mem_map.mp hv
            exact True.intro
          have s1417 := (s1416.trans sU).trans s17
          have k517 := k514.trans (KI.of s1417)
          refine ⟨_, rfl, ql, Cl, dq14, _, _, rfl, s1417 _ _ q114, TL.cl, TL.no _ (List.mem_of_getElem? (i := 1) rfl), rfl, _, rfl, ?_⟩
          refine tup_q (.inl (k517 _ _ hRh5 nh_hues)) fun t2 H18 s18 ht2 => ⟨_, _, rfl, Exact.tup 0 (s18 _ _ (s1417 _ _ q214)) ht2 (fun x hx => by obtain ⟨o, _, rfl⟩ := List.mem_map.mp hx; exact flat_hV o) (by rw [List.length_map]; omega), fun H19 s19 => ⟨_, rfl, iteF' rfl ?_⟩⟩
          have k519 := (k517.trans (KI.of s18)).trans (KI.of s19)
          refine ⟨_, rfl, rfl, _, rfl, iteF' rfl ?_⟩
          exact ⟨l, us, ds, R, hs, ql, wp, _, _, _, _, _, _, _, _, _, _, _, rfl, same_end H19 k519 (((hh14.same s1417).same s18).same s19), lo1, by omega⟩
    · rintro σ H' ⟨l, us, ds, R, hs, ql, wp, x5, x6, x7, x8, x9, x10, x11, x12, x14, x15, x16, rfl, _⟩
      exact k H'
end
end K15

set_option maxRecDepth 100000
set_option maxHeartbeats 4000000
namespace Kx
open PySem PySem.Spec PyProof.Rows L2

/-- a held exception's class, as far as reading its fields and asking its class goes -/
structure HeldC (K : PySem.W.Frag) (C : Addr) : Prop where
  fld : XfC K C
  icl : (PySem.W.clsIn K C).isSome = true
  cla : PySem.W.findIn K (.ref C) "__class__" = some (some (.builtin "object.__class__"))
  obj : PySem.W.mroIn K C (.type "object") = some true

/-- an exception stands at a, with the fields fs (none: it has no dict as yet) -/
def Held (H : Hp) (a C : Addr) (fs : List (Str × V)) : Prop :=
  (H a = some (exo a C none) ∧ fs = []) ∨ ∃ dx, H a = some (exo a C (some dx)) ∧ H dx = some (exd dx fs)

section
variable {X : Cx} {pins : List (Addr × Obj)} {σ : L2.St} {H : Hp} {s : Shared} {a C dx : Addr} {f : Str} {fs : List (Str × V)}

theorem held_at (I : Inv X pins σ H s) (h : Held H a C fs) : ∃ ox od, PySem.W.InstAt s.heap a ox C od := by
  rcases h with ⟨ha, _⟩ | ⟨dx, ha, hd⟩
  · obtain ⟨t, ho⟩ := exo_at I.hok ha
    exact ⟨_, none, ⟨ho, rfl, rfl, trivial⟩⟩
  · obtain ⟨t, ho⟩ := exo_at I.hok ha
    obtain ⟨mA, hn, _⟩ := exd_at I.hok hd
    obtain ⟨od, e, _⟩ := lookIn_ns hn
    exact ⟨_, some od, ⟨ho, rfl, rfl, e⟩⟩

/-- e.f of a held exception -/
def tHf (K : PySem.W.Frag) (f : Str) (te : TE) : TE := fun σ H Q => te σ H fun x H1 => ∃ (a C dx : Addr) (fs : List (Str × V)) (v : V),
  x = .ref a ∧ XfC K C ∧ PySem.W.findIn K (.ref C) f = some none ∧ H1 a = some (exo a C (some dx)) ∧ H1 dx = some (exd dx fs) ∧ fs.lookup f = some v ∧ Q v H1
theorem pe_hf {e : Expr} {te : TE} {pos : Pos} (he : PE X e te) (hb : attributeBase e f X.env (eval e X.env) = eval e X.env := by rfl) : PE X (.Attribute e f pos) (tHf X.K f te) := by
  refine ⟨fun pins s σ H Q I h => attr_of hb (thn (he.run pins s σ H _ I h) fun u s1 hh => ?_)⟩
  obtain ⟨x, H1, I1, rx, a, C, dx, fs, v, ex, T, hno, ha, hd, hl, q⟩ := hh
  subst ex
  obtain rfl : u = Value.ref a := rx
  obtain ⟨t, ho⟩ := exo_at I1.hok ha
  obtain ⟨mA, hn, rel⟩ := exd_at I1.hok hd
  obtain ⟨od, eo, look⟩ := lookIn_ns hn
  have rv : RelO (some v) (mA f) := hl ▸ rel f
  obtain ⟨z, ez, rz⟩ := RelO.some_of rv
  have J : PySem.W.InstAt s1.heap a _ C (some od) := ⟨ho, rfl, rfl, eo⟩
  have fo := PySem.W.findObj_own (od := od) (v := z) T.hdC hno rfl (by rw [look, ez])
  exact HandSPX.exc_get I1.kIn J T.ga T.gg T.exC fo (handed_of rz) ⟨v, H1, I1.tok _, rz, q⟩

/-- isinstance(e, D), e a held exception -/
def rHis (K : PySem.W.Frag) : List V → Hp → VK → Prop := fun xs H Q => ∃ (a C : Addr) (fs : List (Str × V)) (c : V) (t : Value) (b : Bool),
  xs = [.ref a, c] ∧ Held H a C fs ∧ HeldC K C ∧ PySem.W.specialIn K (.builtin "object.__class__") "__get__" = some (some (.builtin "getset_descriptor.__get__")) ∧ PySem.W.takesIn K (.builtin "object.__class__") = some true ∧ (∀ u, RelV c u → u = t) ∧ PySem.W.kitOne K (.ref C) t = some b ∧ Q (.bl b) H
theorem call_his : CallR X (.builtin "isinstance") (rHis X.K) := by
  intro pins s σ H xs us Q I r h
  obtain ⟨a, C, fs, c, t, b, ex, hh, T, sp, tk, ct, e, q⟩ := h
  subst ex
  obtain ⟨u1, u2, eu, r1, r2⟩ := vals2 r
  subst eu
  obtain rfl : u1 = Value.ref a := r1
  rw [ct u2 r2]
  obtain ⟨ox, od, J⟩ := held_at I hh
  exact PySem.W.kia_one (PySem.W.kitx_exc T.icl T.fld.ga T.fld.gg T.fld.exC T.cla sp tk T.obj) I.kIn J e (fun z => nomatch z) fun k => ⟨.bl b, H, I.tok k, rfl, q⟩
end

section
variable {X : Cx} {C fI : Addr} {k : Nat} {fd : FuncData} {ps : List Str} {sp : Sp} {x : Str} {e : Expr} {es : List Expr} {ta : TA} {p pos : Pos} {CX : CXT}
/-- the class at C called with values: a new exception, kept, its own __init__ run -/
theorem hold_call {pins : List (Addr × Obj)} {σ : L2.St} {H : Hp} {s : Shared} {Q : VK} {us : List Value} {vs : List V} (T : OexC X.K C) (iC : PySem.W.findIn X.K (.ref C) "__init__" = some (some (.ref fI))) (tI : PySem.W.typeIn X.K (.ref fI) = some (.type "function"))
    (F1 : FnOk X.prog X.w X.K X.mg X.base CX k fI fd ps sp) (hr : Room (k + 1) X.A) (hb : Binds X.K fd ps []) (hx : Passes CX X E0) (I : Inv X pins σ H s) (r : Vals vs us) (hz : vs.length ≤ 1000)
    (q : ∀ a, H a = none → sp (.ref a :: vs) (upd H a (exo a C none)) (fun v H2 => v = .non ∧ Q (.ref a) H2) E0) :
    wpAny (model X.prog X.w) X.A (call (.ref C) us) (EP X pins σ Q) X.xe s := by
  obtain ⟨nm, qn, N, bs, bm, sn, sub, ab, col, dd, k0, k1, k2, k3, k5, hC, hbm⟩ := T.cls
  obtain ⟨hp, g, dr, tk, os⟩ := s
  generalize ea : hp.objs.size + 1 = a
  have hsz : hp.objs.size ≤ a := by omega
  have hn : H a = none := I.hok.fresh hsz
  have hq := q a hn
  have kk : ∀ b o, hp.get? b = some o → ((hp.push (PySem.W.kdv_tup us)).push (PySem.HandSPX.excO C hp.objs.size)).get? b = some o :=
    fun b o z => Heap.get?_push_of_some _ (Heap.get?_push_of_some _ z)
  have hget : ((hp.push (PySem.W.kdv_tup us)).push (PySem.HandSPX.excO C hp.objs.size)).get? a = some (PySem.HandSPX.excO C hp.objs.size) := by
    rw [← ea]
    heap_get
  have I2 : Inv X pins σ (upd H a (exo a C none)) ⟨(hp.push (PySem.W.kdv_tup us)).push (PySem.HandSPX.excO C hp.objs.size), g, dr, tk, os⟩ :=
    I.laid (t' := tk) kk hsz (exo_ok hget)
  have r2 : Vals (V.ref a :: vs) (Value.ref a :: us) := .cons rfl r
  have hl : (Value.ref a :: us).length = ps.length := r2.length.symm.trans (F1.len _ _ _ _ hq)
  have hus : us.length ≤ sizeLine := by
    rw [← Paired.length r, sizeLine_eq]
    omega
  have bd : BindsTo ⟨(hp.push (PySem.W.kdv_tup us)).push (PySem.HandSPX.excO C hp.objs.size), g, dr, tk, os⟩ fd ⟨Value.ref a :: us, []⟩ (ps.zip (Value.ref a :: us)) := by
    have z := hb ⟨(hp.push (PySem.W.kdv_tup us)).push (PySem.HandSPX.excO C hp.objs.size), g, dr, tk, os⟩ (Value.ref a :: us) I2.kIn (by rw [List.append_nil]; exact hl)
    rw [List.append_nil] at z
    exact z
  have go := F1.run _ X.stack _ _ ⟨Value.ref a :: us, []⟩ (Value.ref a :: us) _ _ E0 (hr.make C us []) (I2.env0.make C us []) bd r2 hq
  refine wpAny_call (PySem.HandSPX.call_own F.excBase_ValueError (fun Y => PySem.HandSPX.refsVE_contains Y bm hbm) (I.kIn _ _ hC) (PySem.W.looks_findIn I.kIn iC) (fun self => PySem.W.bind_fn I.kIn self tI) hus ?_)
  rw [ea]
  refine codeAny_mono go fun r s' hq' => ?_
  cases r with
  | error er => exact hx pins σ _ _ er s' I2 hq'
  | ok fl =>
    cases fl with
    | ret u =>
      obtain ⟨v, H2, J, rv, ev, q2⟩ := I2.after (show CE _ _ _ _ _ _ u s' from hq')
      subst ev
      exact ⟨rv, .ref a, H2, J, rfl, q2⟩
    | next => exact False.elim hq'
    | brk => exact False.elim hq'
    | cont => exact False.elim hq'

/-- C(e, ..) kept as a value -/
def tHold (C : Addr) (sp : Sp) (ta : TA) : TE := fun σ H Q => ta σ H fun vs H1 => vs.length ≤ 1000 ∧ ∀ a, H1 a = none → sp (.ref a :: vs) (upd H1 a (exo a C none)) (fun v H2 => v = .non ∧ Q (.ref a) H2) E0
theorem pe_hold (T : OexC X.K C) (iC : PySem.W.findIn X.K (.ref C) "__init__" = some (some (.ref fI))) (tI : PySem.W.typeIn X.K (.ref fI) = some (.type "function"))
    (F1 : FnOk X.prog X.w X.K X.mg X.base CX k fI fd ps sp) (hr : Room (k + 1) X.A) (hb : Binds X.K fd ps []) (hx : Passes CX X E0) (hg : Gl X x) (hm : X.mg x = some (.ref C)) (ha : PA X (e :: es) ta)
    (hdb : (x == ("__debug__" : Str)) = false := by decide) (he : starEach (e :: es) X.env = (false, eval e X.env) :: starEach es X.env := by rfl) (hpl : (backTo pos (starEach es X.env)).any (·.1) = false := by rfl) :
    PE X (.Call (.Name x p) (e :: es) [] pos) (tHold C sp ta) := by
  refine ⟨fun pins s σ H Q I h => wpAny_Call_Name_kw (ld_glob I hg hm ?_ hdb)⟩
  refine PySem.W.callWith_K (h₀ := X.base) I.ok.mod.kin T.kC (thn (ha.run pos pins s σ H _ I h) fun us s1 ⟨vs, H1, I1, r1, hz, q1⟩ => ?_) he hpl
  exact ⟨I1.kIn, hold_call T iC tI F1 hr hb hx I1 r1 hz q1⟩
/-- C() -/
theorem pe_hold0 (T : OexC X.K C) (iC : PySem.W.findIn X.K (.ref C) "__init__" = some (some (.ref fI))) (tI : PySem.W.typeIn X.K (.ref fI) = some (.type "function"))
    (F1 : FnOk X.prog X.w X.K X.mg X.base CX k fI fd ps sp) (hr : Room (k + 1) X.A) (hb : Binds X.K fd ps []) (hx : Passes CX X E0) (hg : Gl X x) (hm : X.mg x = some (.ref C))
    (hdb : (x == ("__debug__" : Str)) = false := by decide) :
    PE X (.Call (.Name x p) [] [] pos) (tHold C sp tNil) := by
  refine ⟨fun pins s σ H Q I h => wpAny_Call_Name_kw (ld_glob I hg hm ?_ hdb)⟩
  obtain ⟨hz, q1⟩ := h
  exact PySem.W.callWith_K0 I.kIn T.kC (hold_call T iC tI F1 hr hb hx I (us := []) .nil hz q1)
end
end Kx

set_option maxRecDepth 100000
set_option maxHeartbeats 4000000
namespace Kx
open PySem PySem.Spec PyProof.Rows L2 He

/-- the class at C, by its object alone: over ValueError, its own chain, a dict for its instances -/
def shapeB (K : PySem.W.Frag) (C Kin : Addr) : Bool :=
  match K.lookup C with
  | some ⟨c, _, .cls cd, sl⟩ =>
    (match cd.mro, sl.toList with
      | a :: bm, [_, _, _, _, some (.builtin n), _] => (c == .type "type") && ((a == .ref C) && ((n == "ValueError.__new__") && (cd.hasDict && ((!cd.hasDel) && (bm == .ref Kin :: veBase)))))
      | _, _ => false)
  | _ => false

theorem shapeB_ok {K : PySem.W.Frag} {C Kin : Addr} (h : shapeB K C Kin = true) :
    ∃ nm q N bs sn sub ab col dd k0 k1 k2 k3 k5, K.lookup C = some (excClassObj nm q C N bs (.ref Kin :: veBase) true sn sub ab col dd k0 k1 k2 k3 k5 "ValueError.__new__") := by
  unfold shapeB at h
  split at h
  · rename_i c dd cd sl ho
    split at h
    · rename_i a bm k0 k1 k2 k3 n k5 hm hs
      simp only [Bool.and_eq_true, beq_iff_eq, Bool.not_eq_true'] at h
      obtain ⟨rfl, rfl, rfl, hd, hdel, rfl⟩ := h
      obtain ⟨nm, bs, mro, ns, qn, hdct, sn, sub, ab, col, del⟩ := cd
      dsimp only at hm hdel hd
      subst hm hdel hd
      obtain ⟨l⟩ := sl
      have e : l = [k0, k1, k2, k3, some (.builtin "ValueError.__new__"), k5] := hs
      subst e
      exact ⟨_, _, _, _, _, _, _, _, _, _, _, _, _, _, ho⟩
    · cases h
  · cases h

/-- one error class of the text: its name, the parameters of its own __init__ -/
structure ErrD where
  name : Str
  ps : List Str

/-- all that is asked of such a class -/
def ErrD.ok (K : PySem.W.Frag) (Kin : Addr) (d : ErrD) : Bool :=
  shapeB K (ga K d.name) Kin && (xfB K (ga K d.name)
    && (eqO (PySem.W.findIn K (.ref (ga K d.name)) "__setattr__") (some (some (.builtin "object.__setattr__")))
    && (decide (PySem.W.typeIn K (.ref (ga K d.name)) = some (.type "type"))
    && (PySem.W.keepIn K (.ref (ga K d.name))
    && (eqO (PySem.W.findIn K (.ref (ga K d.name)) "__class__") (some (some (.builtin "object.__class__")))
    && (eqO (PySem.W.findIn K (.ref (ga K d.name)) "__init__") (some (some (.ref (ma K (ga K d.name) "__init__"))))
    && (decide (PySem.W.typeIn K (.ref (ma K (ga K d.name) "__init__")) = some (.type "function"))
    && d.ps.all fun p => eqO (PySem.W.findIn K (.ref (ga K d.name)) p) (some none))))))))

/-- the same, said -/
structure ErrOk (K : PySem.W.Frag) (Kin : Addr) (d : ErrD) : Prop where
  oex : OexC K (ga K d.name)
  held : HeldC K (ga K d.name)
  ini : PySem.W.findIn K (.ref (ga K d.name)) "__init__" = some (some (.ref (ma K (ga K d.name) "__init__")))
  inT : PySem.W.typeIn K (.ref (ma K (ga K d.name) "__init__")) = some (.type "function")
  no : ∀ p ∈ d.ps, PySem.W.findIn K (.ref (ga K d.name)) p = some none
  mro : ∃ cd, PySem.W.clsIn K (ga K d.name) = some cd ∧ cd.mro = .ref (ga K d.name) :: .ref Kin :: veBase

theorem refsVE_kin {Kin : Addr} : PySem.HandSPX.refsVE (.ref Kin :: veBase) = true := by
  show PySem.HandSPX.refsVE veBase = true
  decide +kernel
theorem ErrD.ok_ok {K : PySem.W.Frag} {Kin : Addr} {d : ErrD} (h : d.ok K Kin = true) : ErrOk K Kin d := by
  obtain ⟨h1, h⟩ := ba h
  obtain ⟨h2, h⟩ := ba h
  obtain ⟨h3, h⟩ := ba h
  obtain ⟨h4, h⟩ := ba h
  obtain ⟨h5, h⟩ := ba h
  obtain ⟨h6, h⟩ := ba h
  obtain ⟨h7, h⟩ := ba h
  obtain ⟨h8, h9⟩ := ba h
  obtain ⟨nm, q, N, bs, sn, sub, ab, col, dd, k0, k1, k2, k3, k5, hC⟩ := shapeB_ok h1
  have hcl : PySem.W.clsIn K (ga K d.name) = some { name := nm, bases := bs, mro := .ref (ga K d.name) :: .ref Kin :: veBase, ns := N, qualname := q, hasDict := true, slotNames := sn, subclasses := sub, abstract := ab, collection := col, hasDel := false } := by
    unfold PySem.W.clsIn
    rw [hC]
    all_goals rfl
  have X := xfB_ok h2
  refine ⟨⟨⟨nm, q, N, bs, _, sn, sub, ab, col, dd, k0, k1, k2, k3, k5, hC, refsVE_kin⟩, eqO_ok h3, X.exC, of_decide_eq_true h4, h5⟩, ⟨X, by rw [hcl]; rfl, eqO_ok h6, ?_⟩, eqO_ok h7, of_decide_eq_true h8, fun p hp => eqO_ok (List.all_eq_true.mp h9 p hp), ⟨_, hcl, rfl⟩⟩
  unfold PySem.W.mroIn
  rw [hcl]
  show (if ((Value.ref (ga K d.name) :: .ref Kin :: veBase).isEmpty) = true then none else some ((Value.ref (ga K d.name) :: .ref Kin :: veBase).contains (.type "object"))) = some true
  rw [if_neg (by exact Bool.false_ne_true)]
  have e : (Value.ref (ga K d.name) :: .ref Kin :: veBase).contains (.type "object") = veBase.contains (.type "object") := rfl
  rw [e]
  exact congrArg some (by decide +kernel)

/-- isinstance of one of them against another -/
theorem kit_err {K : PySem.W.Frag} {Kin C D : Addr} {cd cd' : ClassData} (hC : PySem.W.clsIn K C = some cd) (mC : cd.mro = .ref C :: .ref Kin :: veBase) (hD : PySem.W.clsIn K D = some cd') (tD : PySem.W.typeIn K (.ref D) = some (.type "type")) :
    PySem.W.kitOne K (.ref C) (.ref D) = some (decide (C = D) || decide (Kin = D)) := by
  unfold PySem.W.kitOne
  by_cases e : C = D
  · subst e
    have e1 : ((Value.ref C) == (Value.ref C)) = true := beq_iff_eq.mpr rfl
    rw [if_pos e1]
    simp
  · have e1 : ¬ ((Value.ref C) == (Value.ref D)) = true := fun z => e (Value.ref.inj (beq_iff_eq.mp z))
    rw [if_neg e1]
    show (if ((PySem.W.clsIn K D).isSome && PySem.W.typeIn K (.ref D) == some (.type "type")) = true then PySem.W.subIn K (.ref C) (.ref D) else none) = _
    have e2 : ((PySem.W.clsIn K D).isSome && PySem.W.typeIn K (.ref D) == some (.type "type")) = true := by
      rw [hD, tD] <;> rfl
    rw [if_pos e2]
    show PySem.W.mroIn K C (.ref D) = _
    unfold PySem.W.mroIn
    rw [hC]
    show (if cd.mro.isEmpty = true then none else some (cd.mro.contains (.ref D))) = _
    rw [mC]
    show (if (List.isEmpty (Value.ref C :: .ref Kin :: veBase)) = true then none else some ((Value.ref C :: .ref Kin :: veBase).contains (.ref D))) = _
    rw [if_neg (by exact Bool.false_ne_true)]
    have tail : veBase.contains (Value.ref D) = false := by
      show ([Value.type "ValueError", .type "Exception", .type "BaseException", .type "object"] : List Value).contains (Value.ref D) = false
      rfl
    have d1 : decide (C = D) = false := decide_eq_false e
    rw [d1, Bool.false_or, List.contains_cons, List.contains_cons, tail, Bool.or_false]
    have b1 : (Value.ref D == Value.ref C) = false := beq_eq_false_iff_ne.mpr fun z => e (Value.ref.inj z).symm
    rw [b1, Bool.false_or]
    congr 1
    by_cases k : Kin = D
    · subst k
      rw [decide_eq_true rfl]
      exact beq_iff_eq.mpr rfl
    · rw [decide_eq_false k]
      exact beq_eq_false_iff_ne.mpr fun z => k (Value.ref.inj z).symm
/-- and against ValueError -/
theorem kit_val {K : PySem.W.Frag} {Kin C : Addr} {cd : ClassData} (hC : PySem.W.clsIn K C = some cd) (mC : cd.mro = .ref C :: .ref Kin :: veBase) : PySem.W.kitOne K (.ref C) (.type "ValueError") = some true := by
  unfold PySem.W.kitOne
  have e1 : ¬ ((Value.ref C) == (Value.type "ValueError")) = true := fun z => by
    have q := beq_iff_eq.mp z
    cases q
  rw [if_neg e1]
  show (if PySem.W.kitMeta "ValueError" = true then PySem.W.subIn K (.ref C) (.type "ValueError") else none) = _
  rw [if_pos (by decide +kernel)]
  show PySem.W.mroIn K C (.type "ValueError") = _
  unfold PySem.W.mroIn
  rw [hC]
  show (if cd.mro.isEmpty = true then none else some (cd.mro.contains (.type "ValueError"))) = _
  rw [mC]
  show (if (List.isEmpty (Value.ref C :: .ref Kin :: veBase)) = true then none else some ((Value.ref C :: .ref Kin :: veBase).contains (.type "ValueError"))) = _
  rw [if_neg (by exact Bool.false_ne_true)]
  have e : (Value.ref C :: .ref Kin :: veBase).contains (.type "ValueError") = veBase.contains (.type "ValueError") := rfl
  rw [e]
  exact congrArg some (by decide +kernel)

/-! ### the head's look: facts, defs, and one Bool more -/
abbrev AlK : Type := AlD × Bool
def obsK (fa : List Fa) (fn : List DefD) (ex : PySem.W.Frag → Bool) (K : PySem.W.Frag) : AlK := (obsD fa fn K, ex K)
/-- what an object leads on to: a def's code, a class's own names, a dict's values -/
def refK (o : Obj) : List Addr :=
  match o.data with
  | .func fd => refV fd.code ++ refV fd.defaults
  | .cls cd => [cd.ns]
  | .dict es _ => es.toList.flatMap fun e => refV e.val
  | _ => []
def stepK (g : Addr → Option Obj) (as : List Addr) : List Addr := as.flatMap fun a =>
  match g a with
  | some o => refK o
  | none => []
/-- the module's names, what they stand for, the classes' names, the methods, their codes: level by level -/
def lvK (g : Addr → Option Obj) : Nat → List Addr → List Addr
  | 0, as => as
  | n + 1, as => as ++ lvK g n (stepK g as)
def frK (g : Addr → Option Obj) : PySem.W.Frag := frG g (lvK g 4 [mainGlobals])
def obsKG (fa : List Fa) (fn : List DefD) (ex : PySem.W.Frag → Bool) (g : Addr → Option Obj) : AlK := obsK fa fn ex (frK g)
structure SaysK (fa : List Fa) (fn : List DefD) (ex : PySem.W.Frag → Bool) (K : PySem.W.Frag) : Prop where
  d : SaysD fa fn K
  x : ex K = true
def hookK (fa : List Fa) (fn : List DefD) (ex : PySem.W.Frag → Bool) : PySem.W.Hook where
  α := AlK
  obs s := obsKG fa fn ex s.heap.get?
  val _ := (valD fn, true)
  says _ h := ∃ K : PySem.W.Frag, K.In h ∧ SaysK fa fn ex K
  of := fun _ _ e => ⟨_, frG_in, ⟨congrArg (fun z : AlK => z.1) e, congrArg (fun z : AlK => z.2) e⟩⟩
  keeps := fun _ _ _ ⟨K, hK, c⟩ k => ⟨K, hK.keeps k, c⟩
theorem obsKG_eq {fa : List Fa} {fn : List DefD} {ex : PySem.W.Frag → Bool} {g : Addr → Option Obj} {s : Shared} (h : ∀ a, g a = s.heap.get? a) : obsKG fa fn ex g = (hookK fa fn ex).obs s := by
  have e : g = s.heap.get? := funext h
  subst e
  rfl
end Kx

set_option maxRecDepth 100000
set_option maxHeartbeats 0
namespace K15
open PySem PySem.Spec PyProof.Rows L2 He Kx
def errs : List ErrD := [⟨"BadWorld", ["index", "what"]⟩, ⟨"NoClass", ["cls"]⟩, ⟨"BadHues", ["index"]⟩, ⟨"NotLine", ["cls", "first", "second"]⟩, ⟨"NoHue", ["hue"]⟩, ⟨"NoLadder", ["cls"]⟩]
def dM (i j : Nat) (x m qn : Str) : DefD := ⟨(x, some m), m, qn, defArgs (inClass (top i) j), defBody (inClass (top i) j), defScope (inClass (top i) j), [], []⟩
def dF (i : Nat) (x : Str) (dv : List Dv) : DefD := ⟨(x, none), x, x, defArgs (top i), defBody (top i), defScope (top i), dv, []⟩
def fn : List DefD := [dF 10 "is_sequence" [],
  dF 11 "is_whole" [.non, .non],
  dF 12 "is_unlike_row" [],
  dF 14 "check_class" [],
  dF 15 "on_line" [],
  dF 21 "is_hue" [],
  dF 22 "check_hues" [],
  dF 23 "hue_fault" [],
  dF 24 "clash_among" [],
  dF 31 "entry_fault" [],
  dF 32 "elder_rows" [],
  dF 33 "heir_rows" [],
  dF 35 "_law_hand" [],
  dF 36 "_law_mixed" [],
  dF 37 "_law_take" [],
  dF 38 "_law_bases" [],
  dF 39 "_law_methods" [],
  dF 40 "_law_shape" [],
  dF 41 "_law_classes" [],
  dF 42 "_law_elders" [],
  dF 43 "_law_row" [],
  dF 44 "_law_int" [],
  dF 45 "_law_exact" [],
  dF 46 "_law_kin" [],
  dF 47 "_law_pairs" [],
  dF 48 "_law_pair_among" [],
  dF 49 "_law_depths" [],
  dF 50 "_law_right_hues" [],
  dF 51 "_law_told_right" [],
  dF 52 "_law_look_right" [],
  dF 53 "_law_three_right" [],
  dF 54 "law" [],
  dM 3 0 "BadWorld" "__init__" "BadWorld.__init__",
  dM 4 0 "NoClass" "__init__" "NoClass.__init__",
  dM 5 0 "BadHues" "__init__" "BadHues.__init__",
  dM 6 0 "NotLine" "__init__" "NotLine.__init__",
  dM 7 0 "NoHue" "__init__" "NoHue.__init__",
  dM 8 0 "NoLadder" "__init__" "NoLadder.__init__",
  dM 18 0 "Clash" "__init__" "Clash.__init__",
  dM 19 0 "Look" "__init__" "Look.__init__",
  dM 20 0 "Ladders" "__init__" "Ladders.__init__",
  dM 20 1 "Ladders" "ladder_of" "Ladders.ladder_of",
  dM 20 2 "Ladders" "depth_of" "Ladders.depth_of",
  dM 20 3 "Ladders" "one_look" "Ladders.one_look",
  dM 20 4 "Ladders" "clash_of" "Ladders.clash_of",
  dM 20 5 "Ladders" "with_class" "Ladders.with_class",
  dM 30 0 "World" "__init__" "World.__init__",
  dM 30 2 "World" "with_class" "World.with_class",
  dM 30 6 "World" "__len__" "World.__len__",
  dM 30 7 "World" "__iter__" "World.__iter__",
  dM 30 8 "World" "__eq__" "World.__eq__"]
def fa : List Fa := [.free "len",
  .free "int",
  .free "abs",
  .free "isinstance",
  .free "range",
  .free "set",
  .free "sorted",
  .free "enumerate",
  .free "tuple",
  .free "list",
  .free "bool",
  .free "str",
  .free "max",
  .free "min",
  .free "ValueError",
  .int "MOST_HUE" 7,
  .int "MOST_CLASSES" 12,
  .int "MOST_FIELDS" 3,
  .int "MOST_METHODS" 3,
  .int "METHOD_NAMES" 6,
  .glo "is_sequence",
  .glo "is_whole",
  .glo "is_unlike_row",
  .glo "check_class",
  .glo "on_line",
  .glo "is_hue",
  .glo "check_hues",
  .glo "hue_fault",
  .glo "clash_among",
  .glo "entry_fault",
  .glo "elder_rows",
  .glo "heir_rows",
  .glo "_law_hand",
  .glo "_law_mixed",
  .glo "_law_take",
  .glo "_law_bases",
  .glo "_law_methods",
  .glo "_law_shape",
  .glo "_law_classes",
  .glo "_law_elders",
  .glo "_law_row",
  .glo "_law_int",
  .glo "_law_exact",
  .glo "_law_kin",
  .glo "_law_pairs",
  .glo "_law_pair_among",
  .glo "_law_depths",
  .glo "_law_right_hues",
  .glo "_law_told_right",
  .glo "_law_look_right",
  .glo "_law_three_right",
  .glo "law",
  .glo "KinError",
  .glo "BadWorld",
  .exm "BadWorld" "BadWorld" true,
  .glo "NoClass",
  .exm "NoClass" "NoClass" true,
  .glo "BadHues",
  .exm "BadHues" "BadHues" true,
  .glo "NotLine",
  .exm "NotLine" "NotLine" true,
  .glo "NoHue",
  .exm "NoHue" "NoHue" true,
  .glo "NoLadder",
  .exm "NoLadder" "NoLadder" true,
  .glo "Clash",
  .cls "Clash",
  .mkr "Clash",
  .noat "Clash" "cls",
  .noat "Clash" "first",
  .noat "Clash" "second",
  .glo "Look",
  .cls "Look",
  .mkr "Look",
  .noat "Look" "hue",
  .noat "Look" "place",
  .noat "Look" "found",
  .noat "Look" "answer",
  .glo "Ladders",
  .cls "Ladders",
  .mkr "Ladders",
  .noat "Ladders" "world",
  .noat "Ladders" "hues",
  .meth "Ladders" "ladder_of",
  .meth "Ladders" "depth_of",
  .meth "Ladders" "one_look",
  .meth "Ladders" "clash_of",
  .meth "Ladders" "with_class",
  .glo "World",
  .cls "World",
  .mkr "World",
  .noat "World" "classes",
  .noat "World" "bases",
  .noat "World" "owns",
  .noat "World" "methods",
  .noat "World" "elders",
  .noat "World" "heirs",
  .meth "World" "with_class",
  .meth "World" "__len__",
  .meth "World" "__iter__",
  .meth "World" "__eq__"]
def exA (K : PySem.W.Frag) : Bool := errs.all fun d => d.ok K (ga K "KinError")
def exC (K : PySem.W.Frag) : Bool := ((eqO (PySem.W.findIn K (.ref (ga K "World")) "__class__") (some (some (.builtin "object.__class__"))) && decide (PySem.W.mroIn K (ga K "World") (.type "object") = some true)) && (decide (PySem.W.specialIn K (.builtin "object.__class__") "__get__" = some (some (.builtin "getset_descriptor.__get__"))) && decide (PySem.W.takesIn K (.builtin "object.__class__") = some true)))
def ex (K : PySem.W.Frag) : Bool := exA K && exC K
def loose0 : List PySem.Str := ["_wall", "KinError", "BadWorld", "NoClass", "BadHues", "NotLine", "NoHue", "NoLadder", "is_sequence", "is_whole", "is_unlike_row", "check_class", "on_line", "MOST_HUE", "Clash", "Look", "Ladders", "is_hue", "check_hues", "hue_fault", "clash_among", "MOST_CLASSES", "MOST_FIELDS", "MOST_METHODS"]
def loose1 : List PySem.Str := ["METHOD_NAMES", "World", "entry_fault", "elder_rows", "heir_rows", "_law_hand", "_law_mixed", "_law_take", "_law_bases", "_law_methods", "_law_shape", "_law_classes", "_law_elders", "_law_row", "_law_int", "_law_exact", "_law_kin", "_law_pairs", "_law_pair_among", "_law_depths", "_law_right_hues", "_law_told_right", "_law_look_right", "_law_three_right"]
def loose : List PySem.Str := loose0 ++ loose1
abbrev R : PySem.W.OpenRow := PySem.W.OpenLaw.row PySem.Challenge.rw_headamid_k15_whole_one_look_for_classes
abbrev hk : PySem.W.Hook := hookK fa fn ex
def ob (s : PySem.W.SharedT) : AlK := obsKG fa fn ex (HandSHeadRun.getT s)
theorem ob_eq (s : PySem.W.SharedT) : ob s = hk.obs s.abs := obsKG_eq (HandSHeadRun.getT_eq s)
noncomputable def endO (w : World) (os : OsState) : Option PySem.W.SharedT := HandSHeadRun.endF (HandSHeadRun.stepQ (HandSHeadRun.denQ HandSHeadRun.tabQ) R.prog w) 40000 R.prog w os
def fr (s : PySem.W.SharedT) : PySem.W.Frag := frK (HandSHeadRun.getT s)
open PySem.W PySem.Calls in
theorem run1 (w : World) (os : OsState) : (endO w os).map (fun s => (HandSHeadRun.looksF R.prog (boot_heap w.params) s.abs, HandSHeadRun.seenQ (PySem.W.view R.prog [54]) loose (importedModules R.prog.main.body) (fun s => PySem.W.xlAt (PySem.W.view R.prog [54]) [] s && PySem.W.recOk R.toRowW.records s) s.abs)) = some (true, PySem.W.openGood (PySem.W.view R.prog [54]) loose) := by
  kernel_rfl
theorem run2 (w : World) (os : OsState) : (endO w os).map (fun s => obsD fa fn (fr s)) = some (valD fn) := by
  kernel_rfl
theorem run3 (w : World) (os : OsState) : (endO w os).map (fun s => ex (fr s)) = some true := by
  kernel_rfl
theorem run (w : World) : HandSHeadRun.RunEq R (PySem.W.view R.prog [54]) hk ob 40000 loose w := by
  intro os
  have h1 := run1 w os
  have h2 := run2 w os
  have h3 := run3 w os
  show (endO w os).map _ = _
  cases e : endO w os with
  | none =>
    rw [e] at h1
    cases h1
  | some s =>
    rw [e] at h1 h2 h3
    obtain ⟨a1, a2⟩ := Prod.mk.inj (Option.some.inj h1)
    have b2 : obsD fa fn (fr s) = valD fn := Option.some.inj h2
    have b3 : ex (fr s) = true := Option.some.inj h3
    have b : ob s = (valD fn, true) := Prod.ext b2 b3
    exact congrArg some (Prod.ext a1 (Prod.ext a2 b))
end K15

set_option maxRecDepth 100000
set_option maxHeartbeats 16000000
namespace K15
open PySem PySem.Spec PyProof.Rows L2 He Kx Kw
theorem err_x {K : PySem.W.Frag} {mg : Str → Option Value} {Kin : Addr} {d : ErrD} (h : ErrOk K Kin d) (m : mg d.name = some (.ref (ga K d.name))) : ErrX K mg d.name d.ps (ga K d.name) (ma K (ga K d.name) "__init__") := ⟨h.oex, h.ini, h.inT, h.no, m⟩
theorem facts {P : Program} {w : World} {K : PySem.W.Frag} {h : Heap} {mg : Str → Option Value} {f : Addr} (X : K.In h) (G : h.Ns mainGlobals mg) (hfa : mg ("law" : Str) = some (.ref f)) (c : SaysK fa fn ex K) :
    ∃ fd : FuncData, (∀ (s : Shared) (v : Value), BindsTo s fd ⟨[v], []⟩ [("_law_script", v)]) ∧ ∀ base : Heap, K.In base → base.Ns mainGlobals mg → FnOk P w K mg base CX0 10 f fd ["_law_script"] (spLaw K) := by
  have e := hfa.symm.trans (glo_ok X G (c.d.fact 51 (f := .glo "law") rfl))
  cases e
  obtain ⟨x1, x2⟩ := ba c.x
  obtain ⟨x3, x4⟩ := ba x2
  obtain ⟨x5, x6⟩ := ba x3
  obtain ⟨x7, x8⟩ := ba x4
  have eo : ∀ d ∈ errs, ErrOk K (ga K "KinError") d := fun d hd => ErrD.ok_ok (List.all_eq_true.mp x1 d hd)
  have E0' := eo ⟨"BadWorld", ["index", "what"]⟩ (List.mem_of_getElem? (i := 0) rfl)
  have E1' := eo ⟨"NoClass", ["cls"]⟩ (List.mem_of_getElem? (i := 1) rfl)
  have E3' := eo ⟨"NotLine", ["cls", "first", "second"]⟩ (List.mem_of_getElem? (i := 3) rfl)
  have TBW : ErrX K mg "BadWorld" ["index", "what"] (ga K "BadWorld") (ma K (ga K "BadWorld") "__init__") := err_x E0' (glo_ok X G (c.d.fact 53 (f := .glo "BadWorld") rfl))
  have TNC : ErrX K mg "NoClass" ["cls"] (ga K "NoClass") (ma K (ga K "NoClass") "__init__") := err_x E1' (glo_ok X G (c.d.fact 55 (f := .glo "NoClass") rfl))
  have TNL : ErrX K mg "NotLine" ["cls", "first", "second"] (ga K "NotLine") (ma K (ga K "NotLine") "__init__") := err_x E3' (glo_ok X G (c.d.fact 59 (f := .glo "NotLine") rfl))
  have B : Fr mg := ⟨(free_ok X G (c.d.fact 3 (f := .free "isinstance") rfl)), (free_ok X G (c.d.fact 9 (f := .free "list") rfl)), (free_ok X G (c.d.fact 8 (f := .free "tuple") rfl)), (free_ok X G (c.d.fact 10 (f := .free "bool") rfl)), (free_ok X G (c.d.fact 1 (f := .free "int") rfl)), (free_ok X G (c.d.fact 0 (f := .free "len") rfl)), (free_ok X G (c.d.fact 5 (f := .free "set") rfl)), (free_ok X G (c.d.fact 4 (f := .free "range") rfl)), (free_ok X G (c.d.fact 6 (f := .free "sorted") rfl)), (free_ok X G (c.d.fact 7 (f := .free "enumerate") rfl))⟩
  have Z : Cst mg := ⟨(int_ok X G (c.d.fact 17 (f := .int "MOST_FIELDS" 3) rfl)), (int_ok X G (c.d.fact 18 (f := .int "MOST_METHODS" 3) rfl)), (int_ok X G (c.d.fact 19 (f := .int "METHOD_NAMES" 6) rfl)), (int_ok X G (c.d.fact 16 (f := .int "MOST_CLASSES" 12) rfl))⟩
  have z7 := (int_ok X G (c.d.fact 15 (f := .int "MOST_HUE" 7) rfl))
  have TC : ClsWorld K mg (ga K "World") := ⟨cls_ok (c.d.fact 89 (f := .cls "World") rfl), fun f hf => by
    rcases List.mem_cons.mp hf with rfl | hf
    · exact noat_ok (c.d.fact 91 (f := .noat "World" "classes") rfl)
    rcases List.mem_cons.mp hf with rfl | hf
    · exact noat_ok (c.d.fact 92 (f := .noat "World" "bases") rfl)
    rcases List.mem_cons.mp hf with rfl | hf
    · exact noat_ok (c.d.fact 93 (f := .noat "World" "owns") rfl)
    rcases List.mem_cons.mp hf with rfl | hf
    · exact noat_ok (c.d.fact 94 (f := .noat "World" "methods") rfl)
    rcases List.mem_cons.mp hf with rfl | hf
    · exact noat_ok (c.d.fact 95 (f := .noat "World" "elders") rfl)
    rcases List.mem_cons.mp hf with rfl | hf
    · exact noat_ok (c.d.fact 96 (f := .noat "World" "heirs") rfl)
    cases hf⟩
  have TK : ClsF K (ga K "Clash") ["cls", "first", "second"] := ⟨cls_ok (c.d.fact 66 (f := .cls "Clash") rfl), fun f hf => by
    rcases List.mem_cons.mp hf with rfl | hf
    · exact noat_ok (c.d.fact 68 (f := .noat "Clash" "cls") rfl)
    rcases List.mem_cons.mp hf with rfl | hf
    · exact noat_ok (c.d.fact 69 (f := .noat "Clash" "first") rfl)
    rcases List.mem_cons.mp hf with rfl | hf
    · exact noat_ok (c.d.fact 70 (f := .noat "Clash" "second") rfl)
    cases hf⟩
  have TLo : ClsF K (ga K "Look") ["hue", "place", "found", "answer"] := ⟨cls_ok (c.d.fact 72 (f := .cls "Look") rfl), fun f hf => by
    rcases List.mem_cons.mp hf with rfl | hf
    · exact noat_ok (c.d.fact 74 (f := .noat "Look" "hue") rfl)
    rcases List.mem_cons.mp hf with rfl | hf
    · exact noat_ok (c.d.fact 75 (f := .noat "Look" "place") rfl)
    rcases List.mem_cons.mp hf with rfl | hf
    · exact noat_ok (c.d.fact 76 (f := .noat "Look" "found") rfl)
    rcases List.mem_cons.mp hf with rfl | hf
    · exact noat_ok (c.d.fact 77 (f := .noat "Look" "answer") rfl)
    cases hf⟩
  have TLd : ClsF K (ga K "Ladders") ["world", "hues"] := ⟨cls_ok (c.d.fact 79 (f := .cls "Ladders") rfl), fun f hf => by
    rcases List.mem_cons.mp hf with rfl | hf
    · exact noat_ok (c.d.fact 81 (f := .noat "Ladders" "world") rfl)
    rcases List.mem_cons.mp hf with rfl | hf
    · exact noat_ok (c.d.fact 82 (f := .noat "Ladders" "hues") rfl)
    cases hf⟩
  have IW : IsiC K (ga K "World") := ⟨eqO_ok x5, of_decide_eq_true x7, of_decide_eq_true x8, of_decide_eq_true x6⟩
  obtain ⟨fdS, FS⟩ := c.d.def_ 0 (d := dF 10 "is_sequence" []) rfl
  obtain ⟨fdW, FW⟩ := c.d.def_ 1 (d := dF 11 "is_whole" [.non, .non]) rfl
  obtain ⟨fdU, FU⟩ := c.d.def_ 2 (d := dF 12 "is_unlike_row" []) rfl
  obtain ⟨fdC, FC⟩ := c.d.def_ 3 (d := dF 14 "check_class" []) rfl
  obtain ⟨fdL, FL⟩ := c.d.def_ 4 (d := dF 15 "on_line" []) rfl
  obtain ⟨fdIH, FIH⟩ := c.d.def_ 5 (d := dF 21 "is_hue" []) rfl
  obtain ⟨fdCH, FCH⟩ := c.d.def_ 6 (d := dF 22 "check_hues" []) rfl
  obtain ⟨fdHF, FHF⟩ := c.d.def_ 7 (d := dF 23 "hue_fault" []) rfl
  obtain ⟨fdCA, FCA⟩ := c.d.def_ 8 (d := dF 24 "clash_among" []) rfl
  obtain ⟨fdEF, FEF⟩ := c.d.def_ 9 (d := dF 31 "entry_fault" []) rfl
  obtain ⟨fdER, FER⟩ := c.d.def_ 10 (d := dF 32 "elder_rows" []) rfl
  obtain ⟨fdHR, FHR⟩ := c.d.def_ 11 (d := dF 33 "heir_rows" []) rfl
  obtain ⟨fdHa, FHa⟩ := c.d.def_ 12 (d := dF 35 "_law_hand" []) rfl
  obtain ⟨fdMi, FMi⟩ := c.d.def_ 13 (d := dF 36 "_law_mixed" []) rfl
  obtain ⟨fdTa, FTa⟩ := c.d.def_ 14 (d := dF 37 "_law_take" []) rfl
  obtain ⟨fdBa, FBa⟩ := c.d.def_ 15 (d := dF 38 "_law_bases" []) rfl
  obtain ⟨fdMe, FMe⟩ := c.d.def_ 16 (d := dF 39 "_law_methods" []) rfl
  obtain ⟨fdSh, FSh⟩ := c.d.def_ 17 (d := dF 40 "_law_shape" []) rfl
  obtain ⟨fdCl, FCl⟩ := c.d.def_ 18 (d := dF 41 "_law_classes" []) rfl
  obtain ⟨fdEl, FEl⟩ := c.d.def_ 19 (d := dF 42 "_law_elders" []) rfl
  obtain ⟨fdRo, FRo⟩ := c.d.def_ 20 (d := dF 43 "_law_row" []) rfl
  obtain ⟨fdIn, FIn⟩ := c.d.def_ 21 (d := dF 44 "_law_int" []) rfl
  obtain ⟨fdEx, FEx⟩ := c.d.def_ 22 (d := dF 45 "_law_exact" []) rfl
  obtain ⟨fdKi, FKi⟩ := c.d.def_ 23 (d := dF 46 "_law_kin" []) rfl
  obtain ⟨fdPA, FPA⟩ := c.d.def_ 25 (d := dF 48 "_law_pair_among" []) rfl
  obtain ⟨fdDe, FDe⟩ := c.d.def_ 26 (d := dF 49 "_law_depths" []) rfl
  obtain ⟨fdTR, FTR⟩ := c.d.def_ 30 (d := dF 53 "_law_three_right" []) rfl
  obtain ⟨fdPs, FPs⟩ := c.d.def_ 24 (d := dF 47 "_law_pairs" []) rfl
  obtain ⟨fdRH, FRH⟩ := c.d.def_ 27 (d := dF 50 "_law_right_hues" []) rfl
  obtain ⟨fdTo, FTo⟩ := c.d.def_ 28 (d := dF 51 "_law_told_right" []) rfl
  obtain ⟨fdLR, FLR⟩ := c.d.def_ 29 (d := dF 52 "_law_look_right" []) rfl
  obtain ⟨fdLaw, FLaw⟩ := c.d.def_ 31 (d := dF 54 "law" []) rfl
  obtain ⟨fdBW, FBW⟩ := c.d.def_ 32 (d := dM 3 0 "BadWorld" "__init__" "BadWorld.__init__") rfl
  obtain ⟨fdNC, FNC⟩ := c.d.def_ 33 (d := dM 4 0 "NoClass" "__init__" "NoClass.__init__") rfl
  obtain ⟨fdNL, FNL⟩ := c.d.def_ 35 (d := dM 6 0 "NotLine" "__init__" "NotLine.__init__") rfl
  obtain ⟨fdCI, FCI⟩ := c.d.def_ 38 (d := dM 18 0 "Clash" "__init__" "Clash.__init__") rfl
  obtain ⟨fdLk, FLkI⟩ := c.d.def_ 39 (d := dM 19 0 "Look" "__init__" "Look.__init__") rfl
  obtain ⟨fdLI, FLI⟩ := c.d.def_ 40 (d := dM 20 0 "Ladders" "__init__" "Ladders.__init__") rfl
  obtain ⟨fdLO, FLO⟩ := c.d.def_ 41 (d := dM 20 1 "Ladders" "ladder_of" "Ladders.ladder_of") rfl
  obtain ⟨fdDO, FDO⟩ := c.d.def_ 42 (d := dM 20 2 "Ladders" "depth_of" "Ladders.depth_of") rfl
  obtain ⟨fdOL, FOL⟩ := c.d.def_ 43 (d := dM 20 3 "Ladders" "one_look" "Ladders.one_look") rfl
  obtain ⟨fdCO, FCO⟩ := c.d.def_ 44 (d := dM 20 4 "Ladders" "clash_of" "Ladders.clash_of") rfl
  obtain ⟨fdWL, FWL⟩ := c.d.def_ 45 (d := dM 20 5 "Ladders" "with_class" "Ladders.with_class") rfl
  obtain ⟨fdWI, FWI⟩ := c.d.def_ 46 (d := dM 30 0 "World" "__init__" "World.__init__") rfl
  obtain ⟨fdWC, FWC⟩ := c.d.def_ 47 (d := dM 30 2 "World" "with_class" "World.with_class") rfl
  obtain ⟨fdWE, FWE⟩ := c.d.def_ 50 (d := dM 30 8 "World" "__eq__" "World.__eq__") rfl
  have b := FunD.bindsA (ps := ["_law_script"]) FLaw fun _ _ _ _ _ _ us hl => match us, hl with | [_], _ => rfl
  refine ⟨fdLaw, fun s v => b s [v] rfl, fun base _ _ => ?_⟩
  have GHa := ok_hand (P := P) (w := w) (base := base) FHa (free_ok X G (c.d.fact 1 (f := .free "int") rfl)) (free_ok X G (c.d.fact 0 (f := .free "len") rfl)) (free_ok X G (c.d.fact 2 (f := .free "abs") rfl))
  have GTa := ok_take (P := P) (w := w) (base := base) FTa FMi (glo_ok X G (c.d.fact 33 (f := .glo "_law_mixed") rfl)) B.int B.len
  have GBa := ok_bases (P := P) (w := w) (base := base) FBa B FTa (glo_ok X G (c.d.fact 34 (f := .glo "_law_take") rfl)) FMi (glo_ok X G (c.d.fact 33 (f := .glo "_law_mixed") rfl))
  have GMe := ok_methods (P := P) (w := w) (base := base) FMe B FTa (glo_ok X G (c.d.fact 34 (f := .glo "_law_take") rfl)) FMi (glo_ok X G (c.d.fact 33 (f := .glo "_law_mixed") rfl))
  have GRo := ok_row (P := P) (w := w) (base := base) FRo B FTa (glo_ok X G (c.d.fact 34 (f := .glo "_law_take") rfl)) FMi (glo_ok X G (c.d.fact 33 (f := .glo "_law_mixed") rfl))
  have GCl := ok_classes (P := P) (w := w) (base := base) FCl B FTa (glo_ok X G (c.d.fact 34 (f := .glo "_law_take") rfl)) FMi (glo_ok X G (c.d.fact 33 (f := .glo "_law_mixed") rfl)) FBa (glo_ok X G (c.d.fact 35 (f := .glo "_law_bases") rfl)) FSh (glo_ok X G (c.d.fact 37 (f := .glo "_law_shape") rfl)) FMe (glo_ok X G (c.d.fact 36 (f := .glo "_law_methods") rfl)) (free_ok X G (c.d.fact 12 (f := .free "max") rfl)) (free_ok X G (c.d.fact 13 (f := .free "min") rfl))
  have GW := ok_world (P := P) (w := w) (base := base) FWI B Z TC FS (glo_ok X G (c.d.fact 20 (f := .glo "is_sequence") rfl)) FW (glo_ok X G (c.d.fact 21 (f := .glo "is_whole") rfl)) FU (glo_ok X G (c.d.fact 22 (f := .glo "is_unlike_row") rfl)) FEF (glo_ok X G (c.d.fact 29 (f := .glo "entry_fault") rfl)) FER (glo_ok X G (c.d.fact 30 (f := .glo "elder_rows") rfl)) FHR (glo_ok X G (c.d.fact 31 (f := .glo "heir_rows") rfl)) FBW TBW
  have GKi := ok_kin (P := P) (w := w) (base := base) FKi B FEl (glo_ok X G (c.d.fact 39 (f := .glo "_law_elders") rfl))
  have GPA := ok_pairAm (P := P) (w := w) (base := base) FPA B
  have GDe := ok_depths (P := P) (w := w) (base := base) FDe B
  have GEx := ok_exact (P := P) (w := w) (base := base) FEx B (free_ok X G (c.d.fact 11 (f := .free "str") rfl)) (glo_ok X G (c.d.fact 42 (f := .glo "_law_exact") rfl)) FIn (glo_ok X G (c.d.fact 41 (f := .glo "_law_int") rfl))
  have GTR := ok_three (P := P) (w := w) (base := base) FTR B TK FEx (glo_ok X G (c.d.fact 42 (f := .glo "_law_exact") rfl)) (GEx 1)
  have GPs := ok_pairs (P := P) (w := w) (base := base) FPs B FKi (glo_ok X G (c.d.fact 43 (f := .glo "_law_kin") rfl)) GKi
  have GRH := ok_rhues (P := P) (w := w) (base := base) FRH B FTa (glo_ok X G (c.d.fact 34 (f := .glo "_law_take") rfl)) GTa FPs (glo_ok X G (c.d.fact 44 (f := .glo "_law_pairs") rfl)) GPs
  have GHF := ok_hueFault (P := P) (w := w) (base := base) FHF B TC z7 FL (glo_ok X G (c.d.fact 24 (f := .glo "on_line") rfl)) FC (glo_ok X G (c.d.fact 23 (f := .glo "check_class") rfl)) FW (glo_ok X G (c.d.fact 21 (f := .glo "is_whole") rfl)) FNC TNC FCI TK (mkr_ok (c.d.fact 67 (f := .mkr "Clash") rfl)) (glo_ok X G (c.d.fact 65 (f := .glo "Clash") rfl)) FS (glo_ok X G (c.d.fact 20 (f := .glo "is_sequence") rfl)) FIH (glo_ok X G (c.d.fact 25 (f := .glo "is_hue") rfl)) FCH (glo_ok X G (c.d.fact 26 (f := .glo "check_hues") rfl)) FCA (glo_ok X G (c.d.fact 28 (f := .glo "clash_among") rfl))
  have GCA := ok_clashAm (P := P) (w := w) (base := base) FCA B TC FL (glo_ok X G (c.d.fact 24 (f := .glo "on_line") rfl)) FC (glo_ok X G (c.d.fact 23 (f := .glo "check_class") rfl)) FW (glo_ok X G (c.d.fact 21 (f := .glo "is_whole") rfl)) FNC TNC FCI TK (mkr_ok (c.d.fact 67 (f := .mkr "Clash") rfl)) (glo_ok X G (c.d.fact 65 (f := .glo "Clash") rfl))
  have GIH := ok_isHue (P := P) (w := w) (base := base) FIH B z7 FW (glo_ok X G (c.d.fact 21 (f := .glo "is_whole") rfl))
  have GLd := ok_ladders (P := P) (w := w) (base := base) FLI TLd FNL TNL B TK FHF (glo_ok X G (c.d.fact 27 (f := .glo "hue_fault") rfl)) GHF
  obtain ⟨GEq, bEq⟩ := ok_worldEq (P := P) (w := w) (base := base) FWE B TC IW (glo_ok X G (c.d.fact 88 (f := .glo "World") rfl))
  obtain ⟨GWC, bWC⟩ := ok_withC (P := P) (w := w) (base := base) FWC TC FWI (mkr_ok (c.d.fact 90 (f := .mkr "World") rfl)) (glo_ok X G (c.d.fact 88 (f := .glo "World") rfl)) GW
  obtain ⟨GLO, bLO⟩ := ok_ladOf (P := P) (w := w) (base := base) FLO B TC TLd z7 FC (glo_ok X G (c.d.fact 23 (f := .glo "check_class") rfl)) FW (glo_ok X G (c.d.fact 21 (f := .glo "is_whole") rfl)) FNC TNC
  obtain ⟨GDO, bDO⟩ := ok_depOf (P := P) (w := w) (base := base) FDO B TC TLd FC (glo_ok X G (c.d.fact 23 (f := .glo "check_class") rfl)) FW (glo_ok X G (c.d.fact 21 (f := .glo "is_whole") rfl)) FNC TNC (meth_ok (c.d.fact 83 (f := .meth "Ladders" "ladder_of") rfl)) GLO bLO
  obtain ⟨GLkI, bLkI⟩ := ok_lookI (P := P) (w := w) (base := base) FLkI TLo
  obtain ⟨GOL, bOL⟩ := ok_look (P := P) (w := w) (base := base) FOL B TC TLd FC (glo_ok X G (c.d.fact 23 (f := .glo "check_class") rfl)) FW (glo_ok X G (c.d.fact 21 (f := .glo "is_whole") rfl)) FNC TNC (meth_ok (c.d.fact 83 (f := .meth "Ladders" "ladder_of") rfl)) GLO bLO (meth_ok (c.d.fact 84 (f := .meth "Ladders" "depth_of") rfl)) GDO bDO (mkr_ok (c.d.fact 73 (f := .mkr "Look") rfl)) (glo_ok X G (c.d.fact 71 (f := .glo "Look") rfl)) GLkI bLkI
  obtain ⟨GCO, bCO⟩ := ok_clashOf (P := P) (w := w) (base := base) FCO B TC TLd (meth_ok (c.d.fact 97 (f := .meth "World" "with_class") rfl)) GWC bWC FCA (glo_ok X G (c.d.fact 28 (f := .glo "clash_among") rfl)) GCA
  obtain ⟨GWL, bWL⟩ := ok_withL (P := P) (w := w) (base := base) FWL B TC TLd (meth_ok (c.d.fact 97 (f := .meth "World" "with_class") rfl)) GWC bWC FIH (glo_ok X G (c.d.fact 25 (f := .glo "is_hue") rfl)) GIH (meth_ok (c.d.fact 86 (f := .meth "Ladders" "clash_of") rfl)) GCO bCO TK FNL TNL FLI (mkr_ok (c.d.fact 80 (f := .mkr "Ladders") rfl)) (glo_ok X G (c.d.fact 78 (f := .glo "Ladders") rfl)) GLd
  have GLR := ok_lookR (P := P) (w := w) (base := base) FLR B TLo FEx (glo_ok X G (c.d.fact 42 (f := .glo "_law_exact") rfl)) (GEx 0)
  have GTo := ok_told (P := P) (w := w) (base := base) FTo B TLd FEx (glo_ok X G (c.d.fact 42 (f := .glo "_law_exact") rfl)) (GEx 0) (GEx 1) FDe (glo_ok X G (c.d.fact 46 (f := .glo "_law_depths") rfl)) GDe (meth_ok (c.d.fact 83 (f := .meth "Ladders" "ladder_of") rfl)) GLO bLO (meth_ok (c.d.fact 84 (f := .meth "Ladders" "depth_of") rfl)) GDO bDO (meth_ok (c.d.fact 85 (f := .meth "Ladders" "one_look") rfl)) GOL bOL FLR (glo_ok X G (c.d.fact 49 (f := .glo "_law_look_right") rfl)) GLR
  exact ok_law FLaw B FHa (glo_ok X G (c.d.fact 32 (f := .glo "_law_hand") rfl)) GHa FTa (glo_ok X G (c.d.fact 34 (f := .glo "_law_take") rfl)) GTa FCl (glo_ok X G (c.d.fact 38 (f := .glo "_law_classes") rfl)) GCl FBa (glo_ok X G (c.d.fact 35 (f := .glo "_law_bases") rfl)) GBa FMe (glo_ok X G (c.d.fact 36 (f := .glo "_law_methods") rfl)) GMe FRo (glo_ok X G (c.d.fact 40 (f := .glo "_law_row") rfl)) GRo FRH (glo_ok X G (c.d.fact 47 (f := .glo "_law_right_hues") rfl)) GRH FWI (mkr_ok (c.d.fact 90 (f := .mkr "World") rfl)) (glo_ok X G (c.d.fact 88 (f := .glo "World") rfl)) GW TC FLI TLd (mkr_ok (c.d.fact 80 (f := .mkr "Ladders") rfl)) (glo_ok X G (c.d.fact 78 (f := .glo "Ladders") rfl)) GLd FKi (glo_ok X G (c.d.fact 43 (f := .glo "_law_kin") rfl)) GKi FPA (glo_ok X G (c.d.fact 45 (f := .glo "_law_pair_among") rfl)) GPA FTR (glo_ok X G (c.d.fact 50 (f := .glo "_law_three_right") rfl)) GTR FEx (glo_ok X G (c.d.fact 42 (f := .glo "_law_exact") rfl)) (GEx 1) FTo (glo_ok X G (c.d.fact 48 (f := .glo "_law_told_right") rfl)) GTo
    (meth_ok (c.d.fact 86 (f := .meth "Ladders" "clash_of") rfl)) GCO bCO (meth_ok (c.d.fact 87 (f := .meth "Ladders" "with_class") rfl)) GWL bWL GEq bEq (eqO_ok (ba (c.d.fact 100 (f := .meth "World" "__eq__") rfl)).1) (ba (ba (c.d.fact 100 (f := .meth "World" "__eq__") rfl)).2).1 TNL E3'.held.fld (exm_ok (c.d.fact 60 (f := .exm "NotLine" "NotLine" true) rfl))
end K15
open PySem PySem.W PySem.Calls PyProof.Rows
theorem PySem.Challenge.cw_headamid_k15_whole_one_look_for_classes_holds : PySem.Challenge.rw_headamid_k15_whole_one_look_for_classes.Holds := by
  w_on; o_law
  refine HandSHeadRun.head_any (r := OpenLaw.row PySem.Challenge.rw_headamid_k15_whole_one_look_for_classes) (q := view (OpenLaw.row PySem.Challenge.rw_headamid_k15_whole_one_look_for_classes).prog [54]) (H := K15.hk) (ob := K15.ob) (M := 40000) (loose := K15.loose) (d := HandSHeadRun.topDef (OpenLaw.row PySem.Challenge.rw_headamid_k15_whole_one_look_for_classes).prog 54) (kwd := []) K15.ob_eq
    (by kernel_rfl) (fun s => by kernel_rfl) K15.run (by kernel_rfl) (by kernel_rfl) (by kernel_rfl) (by rfl) (by first | assumption | decide +kernel) (by decide +kernel) ⟨rfl, rfl, rfl, rfl, rfl, by decide +kernel⟩ ?hw ?hc
  case hw => w_witness2
  case hc =>
    refine L2.walk_ofE (l := PySem.Challenge.rw_headamid_k15_whole_one_look_for_classes) (n := 63) (k := 10) (x := "_law_script") (CX := L2.CX0) rfl (by decide) (by kernel_rfl) ⟨rfl, by decide, by decide⟩ ?F (fun _ _ _ _ z => z)
    intro w mg fa h Y G hmg0
    obtain ⟨K, KX, c⟩ := Y
    have hmg : mg ("law" : PySem.Str) = some (.ref fa) := by
      have e : (HandSHeadRun.topDef (OpenLaw.row PySem.Challenge.rw_headamid_k15_whole_one_look_for_classes).prog 54).name = ("law" : PySem.Str) := by kernel_rfl
      rw [← e]
      exact hmg0
    obtain ⟨fd, hb, hF⟩ := K15.facts (P := (PySem.Challenge.rw_headamid_k15_whole_one_look_for_classes).prog) (w := w) KX G hmg c
    exact ⟨K, fd, K15.spLaw K, KX, hb, fun H a ns hl _ hS => ⟨a, ns, rfl, hS, hl, fun _ => rfl⟩, hF⟩
