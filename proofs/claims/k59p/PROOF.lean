import PyProof.Rows.All
import Wide.All
import OpenK.AllK
import Wide.FinOn
import HandS.ForMost
import HandS.SetFor
import HandS.IsInst
import HandS.Defaults
import HandS.NoneIn
import HandS.More
import HandS.SortInts
import KE.GoesEnum
import HandS.ForExc
import HandS.ExcInit
import PyProof.TupleOfSeq
import HandS.Codes
import HandS.Strs
import HandS.TupSets
import HandS.TupAny
import HandS.OwnEq
import HandS.ExcField
import HandS.Deep
import KE.DataMinMax
import HandS.TryMany
import HandS.Ends
import HandS.HeadEnd
import PyProof.ReprRoads
import PyProof.Rows.NestShow
import PyProof.ReprLen
import KE.SortKeyHeap
import HandS.Lambda
import HandS.EndTab
import HandS.SortKw
import HandS.HeadHook4
import KE.KListMore
import HandS.SortRule
import KE.KExcIs
import HandS.Head2
import HandS.HeadHook2
import PySem.Challenge.RW_headamid_k59_whole_methods_that_clear_a
set_option Elab.async false
set_option linter.all false
set_option maxRecDepth 100000
set_option maxHeartbeats 4000000
namespace Kw
open PySem PySem.Spec PyProof.Rows L2

/-! ### as many different ones as there are -/
theorem len_le_of_sub : ∀ {ks ns : List Int}, ks.Nodup → (∀ k ∈ ks, k ∈ ns) → ks.length ≤ ns.length
  | [], _, _, _ => Nat.zero_le _
  | k :: r, ns, hn, hs => by
    have hk : k ∈ ns := hs k List.mem_cons_self
    obtain ⟨h1, h2⟩ := List.nodup_cons.mp hn
    have ih := len_le_of_sub (ks := r) (ns := ns.erase k) h2 fun y hy => by
      have ne : y ≠ k := fun e => h1 (by rw [← e]; exact hy)
      exact (List.mem_erase_of_ne ne).mpr (hs y (List.mem_cons_of_mem _ hy))
    rw [List.length_erase_of_mem hk] at ih
    have := List.length_pos_of_mem hk
    show r.length + 1 ≤ ns.length
    omega
theorem nodup_of_len : ∀ {ns ks : List Int}, ks.Nodup → (∀ k ∈ ks, k ∈ ns) → ns.length ≤ ks.length → ns.Nodup
  | [], _, _, _, _ => List.nodup_nil
  | n :: r, ks, hn, hs, hl => by
    by_cases hr : n ∈ r
    · have z := len_le_of_sub (ks := ks) (ns := r) hn fun k hk => by
        rcases List.mem_cons.mp (hs k hk) with e | e
        · rw [e]; exact hr
        · exact e
      have : r.length + 1 ≤ ks.length := hl
      omega
    · refine List.nodup_cons.mpr ⟨hr, nodup_of_len (ks := ks.erase n) (hn.erase n) (fun k hk => ?_) ?_⟩
      · have h1 := (hn.mem_erase_iff).mp hk
        rcases List.mem_cons.mp (hs k h1.2) with e | e
        · exact absurd e h1.1
        · exact e
      · have h2 : r.length + 1 ≤ ks.length := hl
        by_cases hm : n ∈ ks
        · rw [List.length_erase_of_mem hm]
          omega
        · rw [List.erase_of_not_mem hm]
          omega
theorem len_nodup {ks ns : List Int} (hn : ks.Nodup) (hs : ∀ k, k ∈ ks ↔ k ∈ ns) : ks.length = ns.length ↔ ns.Nodup :=
  ⟨fun e => nodup_of_len hn (fun k hk => (hs k).mp hk) (by omega), fun h => Nat.le_antisymm (len_le_of_sub hn fun k hk => (hs k).mp hk) (len_le_of_sub h fun k hk => (hs k).mpr hk)⟩
theorem firstMet_facts (ns : List Int) : ∀ i, i ≤ ns.length → (firstMet (fun i => ns.getD i 0) i).Nodup ∧ ∀ k, k ∈ firstMet (fun i => ns.getD i 0) i ↔ k ∈ ns.take i
  | 0, _ => ⟨List.nodup_nil, fun k => by simp [firstMet_zero]⟩
  | i + 1, hi => by
    obtain ⟨h1, h2⟩ := firstMet_facts ns i (Nat.le_of_succ_le hi)
    have hlt : i < ns.length := hi
    have e : ns.getD i 0 = ns[i] := by
      rw [List.getD_eq_getElem?_getD, List.getElem?_eq_getElem hlt] <;> rfl
    have tk : ns.take (i + 1) = ns.take i ++ [ns[i]] := by
      rw [List.take_add_one, List.getElem?_eq_getElem hlt] <;> rfl
    rw [firstMet_succ, tk]
    unfold step_dedup
    rw [e]
    by_cases hb : (firstMet (fun i => ns.getD i 0) i).any (· == ns[i]) = true
    · rw [if_pos hb]
      obtain ⟨y, hy, ey⟩ := List.any_eq_true.mp hb
      have ey2 : y = ns[i] := eq_of_beq ey
      refine ⟨h1, fun k => ⟨fun hk => List.mem_append_left _ ((h2 k).mp hk), fun hk => ?_⟩⟩
      rcases List.mem_append.mp hk with z | z
      · exact (h2 k).mpr z
      · rw [List.mem_singleton.mp z, ← ey2]
        exact hy
    · rw [if_neg hb]
      have hno : ns[i] ∉ firstMet (fun i => ns.getD i 0) i := fun z => hb (List.any_eq_true.mpr ⟨_, z, beq_iff_eq.mpr rfl⟩)
      refine ⟨List.nodup_append.mpr ⟨h1, by simp, fun a ha b hb' e' => hno ?_⟩, fun k => ?_⟩
      · rw [List.mem_singleton.mp hb'] at e'
        exact e' ▸ ha
      · rw [List.mem_append, List.mem_append, h2 k]
/-! ### len(set(xs)), xs a list or a tuple of ints, whatever they are -/
def tLenSetA (K : PySem.W.Frag) (ta : TE) : TE := fun σ H Q => ta σ H fun x H1 => ∃ (l : Addr) (ns : List Int), x = .ref l ∧ (SqL K H1 l (ns.map V.int) ∨ SqT K H1 l (ns.map V.int)) ∧ ns.length ≤ 4000 ∧ ∀ n : Nat, (n = ns.length ↔ ns.Nodup) → Q (.int n) H1
theorem intsAre_of : ∀ {ns : List Int} {us : List Value}, Vals (ns.map V.int) us → IntsAre us ns
  | [], _, .nil => .nil
  | n :: r, _, .cons h t => by
    obtain ⟨k, e⟩ := h
    rw [e]
    exact .cons n k (intsAre_of t)
theorem pe_lenSetA {X : Cx} {a : Expr} {ta : TE} {p p2 q pos : Pos} (hg : Gl X "len") (hm : X.mg "len" = none) (hg2 : Gl X "set") (hm2 : X.mg "set" = none) (ha : PE X a ta) (hc : X.calm = true := by rfl)
    (na : starEach [a] X.env = (false, eval a X.env) :: starEach [] X.env := by rfl) : PE X (.Call (.Name "len" p) [.Call (.Name "set" p2) [a] [] q] [] pos) (tLenSetA X.K ta) := by
  refine ⟨fun pins s σ H Q I h => Call_ (ld_blt I hg hm PySem.boot_len ?_)⟩
  refine callWith_builtin1 (args_cons (Call_ (ld_blt I hg2 hm2 PyProof.Rows.boot_set ?_)) rfl) rfl rfl
  refine callWith_type1 (args_cons (thn (ha.run pins s σ H _ I h) fun v s1 ⟨x, H1, I1, r1, q1⟩ => args_nil ?_) na) na rfl
  obtain ⟨l, ns, ex, hq, h4, q2⟩ := q1
  subst ex
  obtain rfl : v = Value.ref l := r1
  rcases hq with hq | hq
  · obtain ⟨its, r, pl, hz⟩ := I1.list hq
    have hlen : its.toArray.size = ns.length := by rw [List.size_toArray, ← r.length, List.length_map]
    have ia : IntsAre its.toArray.toList ns := by
      have z := intsAre_of r
      simpa using z
    refine call_set_list (I1.ok.hd hc) pl.isList ia (by rw [hlen]; unfold scanBound; omega) fun h' tk hS hk => args_nil ?_
    rw [hlen] at hS
    obtain ⟨f1, f2⟩ := firstMet_facts ns ns.length (Nat.le_refl _)
    rw [List.take_length] at f2
    have key := len_nodup f1 f2
    have le := firstMet_length_le (fun i => ns.getD i 0) ns.length
    generalize hm : (firstMet (fun i => ns.getD i 0) ns.length).length = m at hS key le
    obtain ⟨o, es, ep, t, ho, hex, hd, _, _, _, hf, hn⟩ := hS
    have I2 : Inv X pins σ H1 { s1 with heap := h', toks := tk } := I1.kept fun b o e => hk b o (Heap.lt_size e) e
    exact call_len_set ho hex hd hf (by rw [hn]; omega) ⟨.int m, H1, I2.tok _, ⟨_, by rw [hn]⟩, q2 m key⟩
  · obtain ⟨its, r, pl, hz⟩ := I1.tuple hq
    have ia : IntsAre its.toArray.toList ns := by
      have z := intsAre_of r
      simpa using z
    refine call_set_tupI ns (I1.ok.hd hc) pl ia (by unfold scanBound; omega) fun h' tk c hS hc' hk => args_nil ?_
    obtain ⟨o, es, ep, t, ho, hex, hd, hg3, hnd, hmem, hbd, hf, hn, _, _⟩ := hS
    have key := len_nodup hnd (ns := ns) fun k => (hmem k).symm.trans (by simp)
    have e1 : (es.toList.map keyOf).length = es.size := by rw [List.length_map, Array.length_toList]
    rw [e1] at key
    have I2 : Inv X pins σ H1 { s1 with heap := h', toks := tk } := I1.kept fun b o e => hk b o e
    exact call_len_set ho hex hd hf (by unfold scanBound at hbd; omega) ⟨.int es.size, H1, I2.tok _, ⟨_, rfl⟩, q2 es.size key⟩
end Kw

set_option maxRecDepth 100000
set_option maxHeartbeats 4000000
namespace K59
open PySem PySem.Spec PyProof.Rows L2 Kw
def top (i : Nat) : Stmt := PySem.Challenge.pw_headamid_k59_whole_methods_that_clear_a.main.body.getD i (.Pass ⟨0, 0, 0, 0⟩)
abbrev FnP (K : PySem.W.Frag) (x : Str) (i : Nat) (f : Addr) (fd : FuncData) : Prop := FunD K x x (defArgs (top i)) (defBody (top i)) (defScope (top i)) [] [] f fd
abbrev FnDf (K : PySem.W.Frag) (x : Str) (i : Nat) (dvs : List V) (f : Addr) (fd : FuncData) : Prop := FunD K x x (defArgs (top i)) (defBody (top i)) (defScope (top i)) dvs [] f fd
theorem same_new {H : Hp} {p : Addr} {o : HO} (hp : H p = none) : Same H (upd H p o) := fun b u e => by
  rw [upd_ne (ne_of_none e hp)]
  exact e
/-- a plain thing's type stays -/
inductive Ty0 (H : Hp) : V → String → Prop where
  | non : Ty0 H .non "NoneType"
  | bl (x : Bool) : Ty0 H (.bl x) "bool"
  | int (i : Int) : Ty0 H (.int i) "int"
  | str (x : Str) : Ty0 H (.str x) "str"
  | lst {a : Addr} {xs : List V} (e : H a = some (.lst xs)) : Ty0 H (.ref a) "list"
  | tup {a : Addr} {xs : List V} (e : H a = some (.tup xs)) : Ty0 H (.ref a) "tuple"
  | dK {a : Addr} {kvs : List (Key × V)} (e : H a = some (.dK kvs)) : Ty0 H (.ref a) "dict"
theorem Ty0.same {H H' : Hp} {x : V} {t : String} (h : Ty0 H x t) (s : Same H H') : Ty0 H' x t := by
  cases h with
  | non => exact .non
  | bl x => exact .bl x
  | int i => exact .int i
  | str x => exact .str x
  | lst e => exact .lst (s _ _ e)
  | tup e => exact .tup (s _ _ e)
  | dK e => exact .dK (s _ _ e)
theorem Ty0.x {K : PySem.W.Frag} {H : Hp} {x : V} {t : String} (h : Ty0 H x t) : TyX K H x (.type t) := by
  cases h with
  | non => exact .base .non
  | bl x => exact .base (.bl x)
  | int i => exact .base (.int i)
  | str x => exact .base (.str x)
  | lst e => exact .base (.lst e)
  | tup e => exact .base (.tup e)
  | dK e => exact .base (.dK e)
def seqT (t : String) : Bool := t == "list" || t == "tuple"
theorem Ty0.seq {K : PySem.W.Frag} {H : Hp} {x : V} {t : String} (h : Ty0 H x t) : PySem.W.kitAny K (.type t) [.type "list", .type "tuple"] = some (seqT t) := by
  have two : kitB t "list" = some (t == "list") → kitB t "tuple" = some (t == "tuple") → PySem.W.kitAny K (.type t) [.type "list", .type "tuple"] = some (seqT t) := fun hb hc => by
    unfold seqT
    refine kitAny_cons (kit_ty hb) (fun eb => ?_) fun eb => by rw [eb]; rfl
    rw [eb, Bool.false_or]
    refine kitAny_cons (kit_ty hc) (fun ec => ?_) fun ec => ec
    rw [ec]
    exact kitAny_nil
  cases h <;> exact two (by decide +kernel) (by decide +kernel)
theorem Ty0.isBool {K : PySem.W.Frag} {H : Hp} {x : V} {t : String} (h : Ty0 H x t) : PySem.W.kitOne K (.type t) (.type "bool") = some (t == "bool") := by
  cases h <;> exact kit_ty (by decide +kernel)
theorem Ty0.isInt {K : PySem.W.Frag} {H : Hp} {x : V} {t : String} (h : Ty0 H x t) : PySem.W.kitOne K (.type t) (.type "int") = some (t == "bool" || t == "int") := by
  cases h <;> exact kit_ty (by decide +kernel)
structure Fr (mg : Str → Option Value) : Prop where
  isinstance : mg "isinstance" = none
  list : mg "list" = none
  tuple : mg "tuple" = none
  bool : mg "bool" = none
  int : mg "int" = none
  len : mg "len" = none
  set : mg "set" = none
  range : mg "range" = none
  sorted : mg "sorted" = none
  enumerate : mg "enumerate" = none
section
variable {P : Program} {w : World} {K : PySem.W.Frag} {mg : Str → Option Value} {base : Heap} {f : Addr} {fd : FuncData}
/-! ### is_sequence -/
def spIsSeq : Sp := fun vs H Q _ => ∃ (x : V) (t : String), vs = [x] ∧ Ty0 H x t ∧ ∀ H', Same H H' → Q (.bl (seqT t)) H'
theorem sc_isSeq : FnScope ["thing"] ["thing"] (defScope (top 8)) := ⟨rfl, rfl, rfl, by decide +kernel, rfl, by decide +kernel, by decide +kernel⟩
theorem ok_isSeq (F : FnP K "is_sequence" 8 f fd) (B : Fr mg) : FnOk P w K mg base CX0 1 f fd ["thing"] spIsSeq := by
  refine F.ok sc_isSeq (fun vs H Q E h => ?_) (fun cdv A outer s H vs Q E hr h => ?_)
  · obtain ⟨x, t, rfl, _⟩ := h
    rfl
  · obtain ⟨x, t, rfl, ty, k⟩ := h
    refine ⟨_, PSs.nox (pss_one (ps_ret (pe_callB call_isiT (by rfl) B.isinstance PyProof.Rows.boot_isinstance (pa_cons (pv 0) (pa_cons (pe_tup (pa_cons (pe_bltn (v := .ty "list") (by rfl) B.list PyProof.Rows.boot_list rfl) (pa_cons (pe_bltn (v := .ty "tuple") (by rfl) B.tuple PyProof.Rows.boot_tuple rfl) pa_nil))) pa_nil))))), ?_⟩
    exact ⟨_, rfl, (by show 2 ≤ sizeLine; decide), fun p np => ⟨x, p, _, _, _, _, rfl, upd_same, .cons (.ty "list") (.cons (.ty "tuple") .nil), (ty.same (same_new np)).x, ty.seq, k _ (same_new np)⟩⟩
/-! ### is_whole -/
def inLo : V → Int → Bool
  | .int l, i => decide (l ≤ i)
  | _, _ => true
def inHi : V → Int → Bool
  | .int h, i => decide (i ≤ h)
  | _, _ => true
def Lim (x : V) : Prop := x = .non ∨ ∃ i, x = .int i
def wholeB (lo hi : V) : V → Bool
  | .int i => inLo lo i && inHi hi i
  | _ => false
def spWhole : Sp := fun vs H Q _ => ∃ (x lo hi : V) (t : String), vs = [x, lo, hi] ∧ Ty0 H x t ∧ Lim lo ∧ Lim hi ∧ Q (.bl (wholeB lo hi x)) H
theorem sc_whole : FnScope ["thing", "low", "high"] ["thing", "low", "high"] (defScope (top 9)) := ⟨rfl, rfl, rfl, by decide +kernel, rfl, by decide +kernel, by decide +kernel⟩
theorem ok_whole (F : FnDf K "is_whole" 9 [.non, .non] f fd) (B : Fr mg) : FnOk P w K mg base CX0 1 f fd ["thing", "low", "high"] spWhole := by
  refine F.ok sc_whole (fun vs H Q E h => ?_) (fun cdv A outer s H vs Q E hr h => ?_)
  · obtain ⟨x, lo, hi, t, rfl, _⟩ := h
    rfl
  · obtain ⟨x, lo, hi, t, rfl, ty, hlo, hhi, k⟩ := h
    refine ⟨_, PSs.nox (pss_cons (ps_if (PW.pt (pw_or (pt_val (pe_callB call_isi (by rfl) B.isinstance PyProof.Rows.boot_isinstance (pa_cons (pv 0) (pa_cons (pe_bltn (v := .ty "bool") (by rfl) B.bool PyProof.Rows.boot_bool rfl) pa_nil))))
        (pw_or1 (pt_not (pt_val (pe_callB call_isi (by rfl) B.isinstance PyProof.Rows.boot_isinstance (pa_cons (pv 0) (pa_cons (pe_bltn (v := .ty "int") (by rfl) B.int PyProof.Rows.boot_int rfl) pa_nil)))))))) (pss_one (ps_ret pe_bl)) pss_nil)
      (pss_cons (ps_if (PW.pt (pw_and (pt_cmpR op_notN (pv 1) pe_non (nomark _)) (pw_and1 (pt_cmpR op_lt (pv 0) (pv 1) (nomark _))))) (pss_one (ps_ret pe_bl)) pss_nil)
      (pss_one (ps_ret (pe_or (pe_cmpR op_isN (pv 2) pe_non (nomark _)) (pe_one (pe_cmpR op_le (pv 0) (pv 2) (nomark _)))))))), ?_⟩
    have tyx := ty.x (K := K)
    have tyb := ty.isBool (K := K)
    have tyi := ty.isInt (K := K)
    refine ⟨_, rfl, x, _, _, _, _, rfl, .ty "bool", tyx, tyb, _, rfl, ?_⟩
    cases ty with
    | bl y => exact iteT k
    | int i =>
      refine iteF ⟨_, rfl, _, _, _, _, _, rfl, .ty "int", tyx, tyi, _, rfl, iteF ?_⟩
      have go2 : inLo lo i = true → (tRet (tOrV (tOp (fun x y H Q => y = V.non ∧ Q (V.bl (decide (x = V.non))) H) (tVar 2) (tC V.non)) (tOp (rI0 fun i j => V.bl (decide (i ≤ j))) (tVar 0) (tVar 2)))) { nx := fun _ H' => Q .non H', rt := Q } [some (.int i), some lo, some hi] H := fun e => by
        refine ⟨_, rfl, rfl, _, rfl, ?_⟩
        have k' : Q (.bl (inHi hi i)) H := by
          have z : wholeB lo hi (.int i) = inHi hi i := by
            show (inLo lo i && inHi hi i) = inHi hi i
            rw [e, Bool.true_and]
          rw [← z]
          exact k
        rcases hhi with rfl | ⟨h, rfl⟩
        · exact k'
        · exact ⟨_, rfl, _, rfl, _, _, rfl, rfl, k'⟩
      rcases hlo with rfl | ⟨l, rfl⟩
      · exact ⟨_, rfl, rfl, _, rfl, go2 rfl⟩
      · refine ⟨_, rfl, rfl, _, rfl, _, rfl, _, rfl, _, _, rfl, rfl, _, rfl, ?_⟩
        by_cases hl : i < l
        · rw [decide_eq_true hl]
          refine iteT ?_
          have z : wholeB (.int l) hi (.int i) = false := by
            show (decide (l ≤ i) && inHi hi i) = false
            rw [decide_eq_false (by omega), Bool.false_and]
          rw [z] at k
          exact k
        · rw [decide_eq_false hl]
          exact iteF (go2 (decide_eq_true (by omega)))
    | non => exact iteF ⟨_, rfl, _, _, _, _, _, rfl, .ty "int", tyx, tyi, _, rfl, iteT k⟩
    | str y => exact iteF ⟨_, rfl, _, _, _, _, _, rfl, .ty "int", tyx, tyi, _, rfl, iteT k⟩
    | lst e => exact iteF ⟨_, rfl, _, _, _, _, _, rfl, .ty "int", tyx, tyi, _, rfl, iteT k⟩
    | tup e => exact iteF ⟨_, rfl, _, _, _, _, _, rfl, .ty "int", tyx, tyi, _, rfl, iteT k⟩
    | dK e => exact iteF ⟨_, rfl, _, _, _, _, _, rfl, .ty "int", tyx, tyi, _, rfl, iteT k⟩
end
end K59

set_option maxRecDepth 100000
set_option maxHeartbeats 4000000
namespace K59
open PySem PySem.Spec PyProof.Rows L2 Kw
/-- a list or a tuple of these -/
def SeqAt (H : Hp) (a : Addr) (xs : List V) : Prop := H a = some (.lst xs) ∨ H a = some (.tup xs)
theorem SeqAt.same {H H' : Hp} {a : Addr} {xs : List V} (h : SeqAt H a xs) (s : Same H H') : SeqAt H' a xs := by
  rcases h with h | h
  · exact .inl (s _ _ h)
  · exact .inr (s _ _ h)
theorem SeqAt.sq {K : PySem.W.Frag} {H : Hp} {a : Addr} {xs : List V} (h : SeqAt H a xs) : SqL K H a xs ∨ SqT K H a xs := by
  rcases h with h | h
  · exact .inl (SqL.of h)
  · exact .inr (SqT.of h)
theorem SeqAt.ty {H : Hp} {a : Addr} {xs : List V} (h : SeqAt H a xs) : ∃ t, Ty0 H (.ref a) t ∧ seqT t = true := by
  rcases h with h | h
  · exact ⟨_, .lst h, rfl⟩
  · exact ⟨_, .tup h, rfl⟩
def intOf : V → Int
  | .int i => i
  | _ => 0
theorem ints_of {lo hi : V} : ∀ {xs : List V}, (∀ x ∈ xs, wholeB lo hi x = true) → xs = (xs.map intOf).map V.int
  | [], _ => rfl
  | x :: r, h => by
    have hx := h x List.mem_cons_self
    have e : x = V.int (intOf x) := by
      cases x with
      | int i => rfl
      | _ => cases hx
    rw [List.map_cons, List.map_cons, ← e, ← ints_of (xs := r) fun y hy => h y (List.mem_cons_of_mem _ hy)]
def unlikeB (m : Int) (xs : List V) : Bool := xs.all (fun x => wholeB (.int 0) (.int (m - 1)) x) && decide ((xs.map intOf).Nodup)
section
variable {P : Program} {w : World} {K : PySem.W.Frag} {mg : Str → Option Value} {base : Heap} {f fS fW : Addr} {fd fdS fdW : FuncData}
theorem binds_whole3 (F : FnDf K "is_whole" 9 [.non, .non] f fd) : L2.Binds K fd ["thing", "low", "high"] [] := by
  obtain ⟨ds, v, b⟩ := F.binds1 (ps := ["thing", "low", "high"]) 3 2 (by simp) rfl fun T kV doc pm an cdv ct us its hu hi => match us, hu, its, hi with | [_, _, _], _, [_, _], _ => ⟨_, rfl, rfl⟩
  cases v
  exact b
theorem binds_whole1 (F : FnDf K "is_whole" 9 [.non, .non] f fd) : ∃ ds, Vals [.non, .non] ds ∧ L2.Binds K fd ["thing", "low", "high"] ds :=
  F.binds1 (ps := ["thing", "low", "high"]) 1 0 (by simp) rfl fun T kV doc pm an cdv ct us its hu hi => match us, hu, its, hi with | [_], _, [_, _], _ => ⟨_, rfl, rfl⟩
/-- what is_unlike_row says of a thing, and how long it is where it is a row -/
def UnlikeIs (H : Hp) (x : V) (m : Int) (r : Bool) (n : Nat) : Prop :=
  (∃ t, Ty0 H x t ∧ seqT t = false ∧ r = false) ∨ (∃ a xs, x = .ref a ∧ SeqAt H a xs ∧ xs.length ≤ 1000 ∧ (∀ y ∈ xs, ∃ t, Ty0 H y t) ∧ r = unlikeB m xs ∧ n = xs.length)
theorem UnlikeIs.same {H H' : Hp} {x : V} {m : Int} {r : Bool} {n : Nat} (h : UnlikeIs H x m r n) (s : Same H H') : UnlikeIs H' x m r n := by
  rcases h with ⟨t, ty, e1, e2⟩ | ⟨a, xs, e, hA, hl, hty, e1, e2⟩
  · exact .inl ⟨t, ty.same s, e1, e2⟩
  · exact .inr ⟨a, xs, e, hA.same s, hl, fun y hy => ⟨_, (hty y hy).choose_spec.same s⟩, e1, e2⟩
def spUnlike : Sp := fun vs H Q _ => ∃ (x : V) (m : Int) (r : Bool) (n : Nat), vs = [x, .int m] ∧ UnlikeIs H x m r n ∧ ∀ H', Same H H' → Q (.bl r) H'
theorem sc_unlike : FnScope ["thing", "many", "item"] ["thing", "many"] (defScope (top 10)) := ⟨rfl, rfl, rfl, by decide +kernel, rfl, by decide +kernel, by decide +kernel⟩
theorem ok_unlike (F : FnP K "is_unlike_row" 10 f fd) (B : Fr mg) (FS : FnP K "is_sequence" 8 fS fdS) (mS : mg "is_sequence" = some (.ref fS)) (FW : FnDf K "is_whole" 9 [.non, .non] fW fdW) (mW : mg "is_whole" = some (.ref fW)) :
    FnOk P w K mg base CX0 2 f fd ["thing", "many"] spUnlike := by
  have GS : FnOk P w K mg base CX0 1 fS fdS ["thing"] spIsSeq := ok_isSeq FS B
  have GW : FnOk P w K mg base CX0 1 fW fdW ["thing", "low", "high"] spWhole := ok_whole FW B
  have bS : L2.Binds K fdS ["thing"] [] := FS.bindsN fun _ _ _ _ _ _ us hl => match us, hl with | [_], _ => rfl
  have bW := binds_whole3 FW
  refine F.ok sc_unlike (fun vs H Q E h => ?_) (fun cdv A outer s H vs Q E hr h => ?_)
  · obtain ⟨x, m, r, n, rfl, _⟩ := h
    rfl
  · obtain ⟨x, m, r, n, rfl, h, k⟩ := h
    rcases h with ⟨t, ty, hs, rfl⟩ | ⟨a, xs, rfl, hA, hl, hty, rfl, rfl⟩
    · refine ⟨_, PSs.nox (pss_cons (ps_if (pt_not (pt_val (pe_call GS (hr.mono (by decide)) (by rfl) mS FS.kp bS .nil pass0 (pa_cons (pv 0) pa_nil)))) (pss_one (ps_ret pe_bl)) pss_nil)
      (pss_cons (ps_for PassesOwn.never rfl (pi_list (pv 0)) (pg_name (i := 2) sc_unlike.nd rfl (Or.inl rfl)) (pss_one (ps_if (pt_not (pt_val (pe_call GW (hr.mono (by decide)) (by rfl) mW FW.kp bW .nil pass0 (pa_cons (pv 2) (pa_cons pe_int (pa_cons (pe_op op_sub (pv 1) pe_int) pa_nil)))))) (pss_one (ps_ret pe_bl)) pss_nil)))
      (pss_one (ps_ret (pe_cmpR op_eq (pe_lenSetA (by rfl) B.len (by rfl) B.set (pv 0)) (pe_callB call_len_seq (by rfl) B.len PySem.boot_len (pa_cons (pv 0) pa_nil)) (nomark _)))))), ?_⟩
      exact ⟨_, rfl, x, t, rfl, ty, fun H1 s1 => ⟨_, rfl, by rw [hs]; exact iteT (k H1 s1)⟩⟩
    · obtain ⟨t, ty, hseq⟩ := hA.ty
      -- a turn: an item that is no such number ends it
      have turn : ∀ (i : Nat) (y : V) (H' : Hp) (v : Option V), xs[i]? = some y → Same H H' → (∀ j z, j < i → xs[j]? = some z → wholeB (.int 0) (.int (m - 1)) z = true) → ∀ (N : L2.St → Hp → Prop),
          (∀ H'', Same H H'' → (∀ j z, j < i + 1 → xs[j]? = some z → wholeB (.int 0) (.int (m - 1)) z = true) → N [some (.ref a), some (.int m), some y] H'') → ∀ D : Ends, D.rt = Q → D.nx = N →
          (tIfS (tNot (tB (tCall spWhole [] E0 (tCons (tVar 2) (tCons (tC (.int 0)) (tCons (tOp (rI0 fun i j => .int (i - j)) (tVar 1) (tC (.int 1))) tNil)))))) (tRet (tC (.bl false))) tNext) D [some (.ref a), some (.int m), some y] H' := by
        intro i y H' v hi sH hall N hN D hrt hnx
        obtain ⟨ty', hy⟩ := hty y (List.mem_of_getElem? hi)
        refine ⟨_, rfl, _, rfl, _, _, rfl, rfl, y, _, _, ty', rfl, hy.same sH, .inr ⟨_, rfl⟩, .inr ⟨_, rfl⟩, _, rfl, ?_⟩
        cases hb : wholeB (.int 0) (.int (m - 1)) y with
        | false =>
          refine iteT ?_
          show D.rt (.bl false) H'
          rw [hrt]
          have e : unlikeB m xs = false := by
            unfold unlikeB
            have z : xs.all (fun x => wholeB (.int 0) (.int (m - 1)) x) = false := List.all_eq_false.mpr ⟨y, List.mem_of_getElem? hi, by rw [hb]; decide⟩
            rw [z, Bool.false_and]
          rw [← e]
          exact k H' sH
        | true =>
          refine iteF ?_
          show D.nx _ H'
          rw [hnx]
          refine hN H' sH fun j z hj hz => ?_
          by_cases e : j = i
          · rw [e, hi] at hz
            rw [← Option.some.inj hz]
            exact hb
          · exact hall j z (by omega) hz
      have done : ∀ (H' : Hp) (v : Option V), Same H H' → (∀ j z, j < xs.length → xs[j]? = some z → wholeB (.int 0) (.int (m - 1)) z = true) →
          (tRet (tOp rEq (tLenSetA K (tVar 0)) (tCB (fun xs H Q => ∃ p ys, xs = [.ref p] ∧ (SqL K H p ys ∨ SqT K H p ys) ∧ Q (.int ys.length) H) (tCons (tVar 0) tNil)))) { nx := fun _ H' => Q .non H', rt := Q } [some (.ref a), some (.int m), v] H' := by
        intro H' v sH hall
        have hall' : ∀ z ∈ xs, wholeB (.int 0) (.int (m - 1)) z = true := fun z hz => by
          obtain ⟨j, hj, e⟩ := List.mem_iff_getElem.mp hz
          exact hall j z hj (by rw [List.getElem?_eq_getElem hj, e])
        have ei := ints_of hall'
        have sq := (hA.same sH).sq (K := K)
        have sq' : SqL K H' a ((xs.map intOf).map V.int) ∨ SqT K H' a ((xs.map intOf).map V.int) := by
          rw [← ei]
          exact sq
        refine ⟨_, rfl, a, xs.map intOf, rfl, sq', by rw [List.length_map]; omega, fun n hn => ⟨_, rfl, a, _, rfl, sq, rfl, ?_⟩⟩
        have e : decide (V.int (n : Int) = V.int (xs.length : Int)) = unlikeB m xs := by
          unfold unlikeB
          rw [List.all_eq_true.mpr hall', Bool.true_and]
          rw [List.length_map] at hn
          by_cases q : (xs.map intOf).Nodup
          · rw [decide_eq_true q, decide_eq_true (by rw [hn.mpr q])]
          · rw [decide_eq_false q, decide_eq_false fun z => q (hn.mp (by have := V.int.inj z; omega))]
        rw [e]
        exact k H' sH
      have at_ty : ∀ H1, Same H H1 → SeqAt H1 a xs := fun H1 s1 => hA.same s1
      rcases hA with hA | hA
      · refine ⟨_, PSs.nox (pss_cons (ps_if (pt_not (pt_val (pe_call GS (hr.mono (by decide)) (by rfl) mS FS.kp bS .nil pass0 (pa_cons (pv 0) pa_nil)))) (pss_one (ps_ret pe_bl)) pss_nil)
      (pss_cons (ps_for PassesOwn.never rfl (pi_list (pv 0)) (pg_name (i := 2) sc_unlike.nd rfl (Or.inl rfl)) (pss_one (ps_if (pt_not (pt_val (pe_call GW (hr.mono (by decide)) (by rfl) mW FW.kp bW .nil pass0 (pa_cons (pv 2) (pa_cons pe_int (pa_cons (pe_op op_sub (pv 1) pe_int) pa_nil)))))) (pss_one (ps_ret pe_bl)) pss_nil)))
      (pss_one (ps_ret (pe_cmpR op_eq (pe_lenSetA (by rfl) B.len (by rfl) B.set (pv 0)) (pe_callB call_len_seq (by rfl) B.len PySem.boot_len (pa_cons (pv 0) pa_nil)) (nomark _)))))), ?_⟩
        refine ⟨_, rfl, _, t, rfl, ty, fun H1 s1 => ⟨_, rfl, ?_⟩⟩
        rw [hseq]
        refine iteF ?_
        refine ⟨_, rfl, a, rfl, ⟨_, SqL.of (s1 _ _ hA)⟩, for_list (K := K) (a := a) (xs := xs) (fun i σ H' => Same H H' ∧ (∃ v, σ = [some (.ref a), some (.int m), v]) ∧ ∀ j z, j < i → xs[j]? = some z → wholeB (.int 0) (.int (m - 1)) z = true)
          ⟨s1, ⟨_, rfl⟩, fun j z hj => absurd hj (Nat.not_lt_zero j)⟩ (fun i σ H' _ h => SqL.of (h.1 _ _ hA)) ?_ ?_⟩
        · rintro i y σ H' hi ⟨sH, ⟨v, rfl⟩, hall⟩
          exact turn i y H' v hi sH hall _ (fun H'' s hh => ⟨s, ⟨_, rfl⟩, hh⟩) _ rfl rfl
        · rintro σ H' ⟨sH, ⟨v, rfl⟩, hall⟩
          exact done H' v sH hall
      · refine ⟨_, PSs.nox (pss_cons (ps_if (pt_not (pt_val (pe_call GS (hr.mono (by decide)) (by rfl) mS FS.kp bS .nil pass0 (pa_cons (pv 0) pa_nil)))) (pss_one (ps_ret pe_bl)) pss_nil)
      (pss_cons (ps_for PassesOwn.never rfl (pi_tup (pv 0)) (pg_name (i := 2) sc_unlike.nd rfl (Or.inl rfl)) (pss_one (ps_if (pt_not (pt_val (pe_call GW (hr.mono (by decide)) (by rfl) mW FW.kp bW .nil pass0 (pa_cons (pv 2) (pa_cons pe_int (pa_cons (pe_op op_sub (pv 1) pe_int) pa_nil)))))) (pss_one (ps_ret pe_bl)) pss_nil)))
      (pss_one (ps_ret (pe_cmpR op_eq (pe_lenSetA (by rfl) B.len (by rfl) B.set (pv 0)) (pe_callB call_len_seq (by rfl) B.len PySem.boot_len (pa_cons (pv 0) pa_nil)) (nomark _)))))), ?_⟩
        refine ⟨_, rfl, _, t, rfl, ty, fun H1 s1 => ⟨_, rfl, ?_⟩⟩
        rw [hseq]
        refine iteF ?_
        refine ⟨_, rfl, a, rfl, ⟨_, SqT.of (s1 _ _ hA)⟩, for_tup (K := K) (a := a) (xs := xs) (fun i σ H' => Same H H' ∧ (∃ v, σ = [some (.ref a), some (.int m), v]) ∧ ∀ j z, j < i → xs[j]? = some z → wholeB (.int 0) (.int (m - 1)) z = true)
          ⟨s1, ⟨_, rfl⟩, fun j z hj => absurd hj (Nat.not_lt_zero j)⟩ (fun i σ H' _ h => SqT.of (h.1 _ _ hA)) ?_ ?_⟩
        · rintro i y σ H' hi ⟨sH, ⟨v, rfl⟩, hall⟩
          exact turn i y H' v hi sH hall _ (fun H'' s hh => ⟨s, ⟨_, rfl⟩, hh⟩) _ rfl rfl
        · rintro σ H' ⟨sH, ⟨v, rfl⟩, hall⟩
          exact done H' v sH hall
end
end K59

set_option maxRecDepth 100000
set_option maxHeartbeats 4000000
namespace K59
open PySem PySem.Spec PyProof.Rows L2 Kw
def optV : Option Str → V
  | some z => .str z
  | none => .non
/-- the word due for an entry -/
def entryWord (rb rm : Bool) (wg : Bool) (nm : Nat) : Option Str :=
  if rb = false then some "base" else if wg = false then some "fields" else if rm = false then some "method" else if 3 < nm then some "method" else none
def EntryIs (H : Hp) (x : V) (c : Int) (what : Option Str) : Prop :=
  (∃ t, Ty0 H x t ∧ seqT t = false ∧ what = some "class") ∨ (∃ a xs, x = .ref a ∧ SeqAt H a xs ∧ xs.length ≠ 3 ∧ what = some "class") ∨
  (∃ a b g m rb nb tg rm nm, x = .ref a ∧ SeqAt H a [b, g, m] ∧ UnlikeIs H b c rb nb ∧ Ty0 H g tg ∧ UnlikeIs H m 6 rm nm ∧ what = entryWord rb rm (wholeB (.int 0) (.int 3) g) nm)
def spEntry : Sp := fun vs H Q _ => ∃ (x : V) (c : Int) (what : Option Str), vs = [x, .int c] ∧ EntryIs H x c what ∧ ∀ H', Same H H' → Q (optV what) H'
structure Cst (mg : Str → Option Value) : Prop where
  mf : ∃ t, mg "MOST_FIELDS" = some (.int 3 t)
  mm : ∃ t, mg "MOST_METHODS" = some (.int 3 t)
  mn : ∃ t, mg "METHOD_NAMES" = some (.int 6 t)
  mc : ∃ t, mg "MOST_CLASSES" = some (.int 12 t)
section
variable {P : Program} {w : World} {K : PySem.W.Frag} {mg : Str → Option Value} {base : Heap} {f fS fW fU : Addr} {fd fdS fdW fdU : FuncData}
theorem sc_entry : FnScope ["entry", "c", "bases", "fields", "methods"] ["entry", "c"] (defScope (top 19)) := ⟨rfl, rfl, rfl, by decide +kernel, rfl, by decide +kernel, by decide +kernel⟩
theorem ok_entry (F : FnP K "entry_fault" 19 f fd) (B : Fr mg) (Z : Cst mg) (FS : FnP K "is_sequence" 8 fS fdS) (mS : mg "is_sequence" = some (.ref fS)) (FW : FnDf K "is_whole" 9 [.non, .non] fW fdW) (mW : mg "is_whole" = some (.ref fW))
    (FU : FnP K "is_unlike_row" 10 fU fdU) (mU : mg "is_unlike_row" = some (.ref fU)) : FnOk P w K mg base CX0 3 f fd ["entry", "c"] spEntry := by
  have GS : FnOk P w K mg base CX0 1 fS fdS ["thing"] spIsSeq := ok_isSeq FS B
  have GW : FnOk P w K mg base CX0 1 fW fdW ["thing", "low", "high"] spWhole := ok_whole FW B
  have GU : FnOk P w K mg base CX0 2 fU fdU ["thing", "many"] spUnlike := ok_unlike FU B FS mS FW mW
  have bS : L2.Binds K fdS ["thing"] [] := FS.bindsN fun _ _ _ _ _ _ us hl => match us, hl with | [_], _ => rfl
  have bU : L2.Binds K fdU ["thing", "many"] [] := FU.bindsN fun _ _ _ _ _ _ us hl => match us, hl with | [_, _], _ => rfl
  have bW := binds_whole3 FW
  obtain ⟨tf, zf⟩ := Z.mf
  obtain ⟨tm, zm⟩ := Z.mm
  obtain ⟨tn, zn⟩ := Z.mn
  refine F.ok sc_entry (fun vs H Q E h => ?_) (fun cdv A outer s H vs Q E hr h => ?_)
  · obtain ⟨x, c, what, rfl, _⟩ := h
    rfl
  · obtain ⟨x, c, what, rfl, h, k⟩ := h
    -- what is asked of an entry of three, its parts at hand
    have parts : ∀ (H1 : Hp) (y b g m : V) (rb rm : Bool) (nb nm : Nat) (tg : String), UnlikeIs H1 b c rb nb → Ty0 H1 g tg → UnlikeIs H1 m 6 rm nm → (∀ H', Same H1 H' → Q (optV (entryWord rb rm (wholeB (.int 0) (.int 3) g) nm)) H') →
        (tSeq (tIfS (tNot (tB (tCall spUnlike [] E0 (tCons (tVar 2) (tCons (tVar 1) tNil))))) (tRet (tC (.str "base"))) tNext) (tSeq (tIfS (tNot (tB (tCall spWhole [] E0 (tCons (tVar 3) (tCons (tC (.int 0)) (tCons (tC (.int 3)) tNil)))))) (tRet (tC (.str "fields"))) tNext) (tSeq (tIfS (tOr (tNot (tB (tCall spUnlike [] E0 (tCons (tVar 4) (tCons (tC (.int 6)) tNil))))) (tTest (tOp (rI0 fun i j => .bl (decide (j < i))) (tCB (fun xs H Q => ∃ p ys, xs = [.ref p] ∧ (SqL K H p ys ∨ SqT K H p ys) ∧ Q (.int ys.length) H) (tCons (tVar 4) tNil)) (tC (.int 3))))) (tRet (tC (.str "method"))) tNext) (tRet (tC .non))))) { nx := fun _ H' => Q .non H', rt := Q } [some y, some (.int c), some b, some g, some m] H1 := by
      intro H1 y b g m rb rm nb nm tg hb hg hm k
      refine ⟨_, rfl, _, rfl, b, c, rb, nb, rfl, hb, fun H2 s2 => ⟨_, rfl, ?_⟩⟩
      cases rb with
      | false => exact iteT (k H2 s2)
      | true =>
        refine iteF ⟨_, rfl, g, _, _, tg, rfl, hg.same s2, .inr ⟨_, rfl⟩, .inr ⟨_, rfl⟩, _, rfl, ?_⟩
        cases hw : wholeB (.int 0) (.int 3) g with
        | false =>
          rw [hw] at k
          exact iteT (k H2 s2)
        | true =>
          rw [hw] at k
          refine iteF ⟨_, rfl, m, 6, rm, nm, rfl, hm.same s2, fun H3 s3 => ⟨_, rfl, ?_⟩⟩
          cases rm with
          | false => exact iteT (k H3 (s2.trans s3))
          | true =>
            refine iteF ?_
            rcases hm with ⟨t, ty, e1, e2⟩ | ⟨a, xs, rfl, hA, hl, hty, e1, e2⟩
            · cases e2
            · refine ⟨_, rfl, a, xs, rfl, ((hA.same s2).same s3).sq, _, _, rfl, rfl, _, rfl, ?_⟩
              have k3 := k H3 (s2.trans s3)
              by_cases q : (3 : Int) < (xs.length : Int)
              · have q' : 3 < nm := by omega
                unfold entryWord at k3
                rw [if_neg (by decide), if_neg (by decide), if_neg (by decide), if_pos q'] at k3
                rw [decide_eq_true q]
                exact iteT k3
              · have q' : ¬ 3 < nm := by omega
                unfold entryWord at k3
                rw [if_neg (by decide), if_neg (by decide), if_neg (by decide), if_neg q'] at k3
                rw [decide_eq_false q]
                exact iteF k3
    rcases h with ⟨t, ty, hs, e⟩ | ⟨a, xs, rfl, hA, hn, e⟩ | ⟨a, b, g, m, rb, nb, tg, rm, nm, rfl, hA, hb, hg, hm, e⟩
    · subst e
      refine ⟨_, PSs.nox (pss_cons (ps_if (PW.pt (pw_or (pt_not (pt_val (pe_call GS (hr.mono (by decide)) (by rfl) mS FS.kp bS .nil pass0 (pa_cons (pv 0) pa_nil)))) (pw_or1 (pt_cmpR op_ne (pe_callB call_len_seq (by rfl) B.len PySem.boot_len (pa_cons (pv 0) pa_nil)) pe_int (nomark _))))) (pss_one (ps_ret pe_str)) pss_nil)
        (pss_cons (ps_asg (pv 0) (pg_tup (by rfl) (pgs_cons (pg_name (i := 2) sc_entry.nd rfl (Or.inl rfl)) (pgs_cons (pg_name (i := 3) sc_entry.nd rfl (Or.inl rfl)) (pgs_cons (pg_name (i := 4) sc_entry.nd rfl (Or.inl rfl)) pgs_nil)))))
        (pss_cons (ps_if (pt_not (pt_val (pe_call GU hr (by rfl) mU FU.kp bU .nil pass0 (pa_cons (pv 2) (pa_cons (pv 1) pa_nil))))) (pss_one (ps_ret pe_str)) pss_nil)
        (pss_cons (ps_if (pt_not (pt_val (pe_call GW (hr.mono (by decide)) (by rfl) mW FW.kp bW .nil pass0 (pa_cons (pv 3) (pa_cons pe_int (pa_cons (pe_glob (v := .int 3) (by rfl) zf ⟨_, rfl⟩) pa_nil)))))) (pss_one (ps_ret pe_str)) pss_nil)
        (pss_cons (ps_if (PW.pt (pw_or (pt_not (pt_val (pe_call GU hr (by rfl) mU FU.kp bU .nil pass0 (pa_cons (pv 4) (pa_cons (pe_glob (v := .int 6) (by rfl) zn ⟨_, rfl⟩) pa_nil))))) (pw_or1 (pt_cmpR op_gt (pe_callB call_len_seq (by rfl) B.len PySem.boot_len (pa_cons (pv 4) pa_nil)) (pe_glob (v := .int 3) (by rfl) zm ⟨_, rfl⟩) (nomark _))))) (pss_one (ps_ret pe_str)) pss_nil)
        (pss_one (ps_ret pe_non))))))), ?_⟩
      refine ⟨_, rfl, x, t, rfl, ty, fun H1 s1 => ⟨_, rfl, ?_⟩⟩
      rw [hs]
      exact iteT (k H1 s1)
    · subst e
      obtain ⟨t, ty, hseq⟩ := hA.ty
      refine ⟨_, PSs.nox (pss_cons (ps_if (PW.pt (pw_or (pt_not (pt_val (pe_call GS (hr.mono (by decide)) (by rfl) mS FS.kp bS .nil pass0 (pa_cons (pv 0) pa_nil)))) (pw_or1 (pt_cmpR op_ne (pe_callB call_len_seq (by rfl) B.len PySem.boot_len (pa_cons (pv 0) pa_nil)) pe_int (nomark _))))) (pss_one (ps_ret pe_str)) pss_nil)
        (pss_cons (ps_asg (pv 0) (pg_tup (by rfl) (pgs_cons (pg_name (i := 2) sc_entry.nd rfl (Or.inl rfl)) (pgs_cons (pg_name (i := 3) sc_entry.nd rfl (Or.inl rfl)) (pgs_cons (pg_name (i := 4) sc_entry.nd rfl (Or.inl rfl)) pgs_nil)))))
        (pss_cons (ps_if (pt_not (pt_val (pe_call GU hr (by rfl) mU FU.kp bU .nil pass0 (pa_cons (pv 2) (pa_cons (pv 1) pa_nil))))) (pss_one (ps_ret pe_str)) pss_nil)
        (pss_cons (ps_if (pt_not (pt_val (pe_call GW (hr.mono (by decide)) (by rfl) mW FW.kp bW .nil pass0 (pa_cons (pv 3) (pa_cons pe_int (pa_cons (pe_glob (v := .int 3) (by rfl) zf ⟨_, rfl⟩) pa_nil)))))) (pss_one (ps_ret pe_str)) pss_nil)
        (pss_cons (ps_if (PW.pt (pw_or (pt_not (pt_val (pe_call GU hr (by rfl) mU FU.kp bU .nil pass0 (pa_cons (pv 4) (pa_cons (pe_glob (v := .int 6) (by rfl) zn ⟨_, rfl⟩) pa_nil))))) (pw_or1 (pt_cmpR op_gt (pe_callB call_len_seq (by rfl) B.len PySem.boot_len (pa_cons (pv 4) pa_nil)) (pe_glob (v := .int 3) (by rfl) zm ⟨_, rfl⟩) (nomark _))))) (pss_one (ps_ret pe_str)) pss_nil)
        (pss_one (ps_ret pe_non))))))), ?_⟩
      refine ⟨_, rfl, _, t, rfl, ty, fun H1 s1 => ⟨_, rfl, ?_⟩⟩
      rw [hseq]
      refine iteF ⟨_, rfl, a, xs, rfl, (hA.same s1).sq, rfl, _, rfl, ?_⟩
      have z : decide (V.int (xs.length : Int) = V.int 3) = false := decide_eq_false fun q => hn (by have := V.int.inj q; omega)
      rw [z]
      exact iteT (k H1 s1)
    · subst e
      obtain ⟨t, ty, hseq⟩ := hA.ty
      rcases hA with hA | hA
      · refine ⟨_, PSs.nox (pss_cons (ps_if (PW.pt (pw_or (pt_not (pt_val (pe_call GS (hr.mono (by decide)) (by rfl) mS FS.kp bS .nil pass0 (pa_cons (pv 0) pa_nil)))) (pw_or1 (pt_cmpR op_ne (pe_callB call_len_seq (by rfl) B.len PySem.boot_len (pa_cons (pv 0) pa_nil)) pe_int (nomark _))))) (pss_one (ps_ret pe_str)) pss_nil)
        (pss_cons (ps_asg (pv 0) (pg_unl (by rfl) (pgs_cons (pg_name (i := 2) sc_entry.nd rfl (Or.inl rfl)) (pgs_cons (pg_name (i := 3) sc_entry.nd rfl (Or.inl rfl)) (pgs_cons (pg_name (i := 4) sc_entry.nd rfl (Or.inl rfl)) pgs_nil)))))
        (pss_cons (ps_if (pt_not (pt_val (pe_call GU hr (by rfl) mU FU.kp bU .nil pass0 (pa_cons (pv 2) (pa_cons (pv 1) pa_nil))))) (pss_one (ps_ret pe_str)) pss_nil)
        (pss_cons (ps_if (pt_not (pt_val (pe_call GW (hr.mono (by decide)) (by rfl) mW FW.kp bW .nil pass0 (pa_cons (pv 3) (pa_cons pe_int (pa_cons (pe_glob (v := .int 3) (by rfl) zf ⟨_, rfl⟩) pa_nil)))))) (pss_one (ps_ret pe_str)) pss_nil)
        (pss_cons (ps_if (PW.pt (pw_or (pt_not (pt_val (pe_call GU hr (by rfl) mU FU.kp bU .nil pass0 (pa_cons (pv 4) (pa_cons (pe_glob (v := .int 6) (by rfl) zn ⟨_, rfl⟩) pa_nil))))) (pw_or1 (pt_cmpR op_gt (pe_callB call_len_seq (by rfl) B.len PySem.boot_len (pa_cons (pv 4) pa_nil)) (pe_glob (v := .int 3) (by rfl) zm ⟨_, rfl⟩) (nomark _))))) (pss_one (ps_ret pe_str)) pss_nil)
        (pss_one (ps_ret pe_non))))))), ?_⟩
        refine ⟨_, rfl, _, t, rfl, ty, fun H1 s1 => ⟨_, rfl, ?_⟩⟩
        rw [hseq]
        refine iteF ⟨_, rfl, a, _, rfl, .inl (SqL.of (s1 _ _ hA)), rfl, _, rfl, iteF ?_⟩
        refine ⟨_, rfl, a, _, rfl, SqL.of (s1 _ _ hA), rfl, _, _, rfl, _, _, rfl, _, _, rfl, rfl, ?_⟩
        exact parts H1 _ b g m rb rm nb nm tg (hb.same s1) (hg.same s1) (hm.same s1) fun H' s => k H' (s1.trans s)
      · refine ⟨_, PSs.nox (pss_cons (ps_if (PW.pt (pw_or (pt_not (pt_val (pe_call GS (hr.mono (by decide)) (by rfl) mS FS.kp bS .nil pass0 (pa_cons (pv 0) pa_nil)))) (pw_or1 (pt_cmpR op_ne (pe_callB call_len_seq (by rfl) B.len PySem.boot_len (pa_cons (pv 0) pa_nil)) pe_int (nomark _))))) (pss_one (ps_ret pe_str)) pss_nil)
        (pss_cons (ps_asg (pv 0) (pg_tup (by rfl) (pgs_cons (pg_name (i := 2) sc_entry.nd rfl (Or.inl rfl)) (pgs_cons (pg_name (i := 3) sc_entry.nd rfl (Or.inl rfl)) (pgs_cons (pg_name (i := 4) sc_entry.nd rfl (Or.inl rfl)) pgs_nil)))))
        (pss_cons (ps_if (pt_not (pt_val (pe_call GU hr (by rfl) mU FU.kp bU .nil pass0 (pa_cons (pv 2) (pa_cons (pv 1) pa_nil))))) (pss_one (ps_ret pe_str)) pss_nil)
        (pss_cons (ps_if (pt_not (pt_val (pe_call GW (hr.mono (by decide)) (by rfl) mW FW.kp bW .nil pass0 (pa_cons (pv 3) (pa_cons pe_int (pa_cons (pe_glob (v := .int 3) (by rfl) zf ⟨_, rfl⟩) pa_nil)))))) (pss_one (ps_ret pe_str)) pss_nil)
        (pss_cons (ps_if (PW.pt (pw_or (pt_not (pt_val (pe_call GU hr (by rfl) mU FU.kp bU .nil pass0 (pa_cons (pv 4) (pa_cons (pe_glob (v := .int 6) (by rfl) zn ⟨_, rfl⟩) pa_nil))))) (pw_or1 (pt_cmpR op_gt (pe_callB call_len_seq (by rfl) B.len PySem.boot_len (pa_cons (pv 4) pa_nil)) (pe_glob (v := .int 3) (by rfl) zm ⟨_, rfl⟩) (nomark _))))) (pss_one (ps_ret pe_str)) pss_nil)
        (pss_one (ps_ret pe_non))))))), ?_⟩
        refine ⟨_, rfl, _, t, rfl, ty, fun H1 s1 => ⟨_, rfl, ?_⟩⟩
        rw [hseq]
        refine iteF ⟨_, rfl, a, _, rfl, .inr (SqT.of (s1 _ _ hA)), rfl, _, rfl, iteF ?_⟩
        refine ⟨_, rfl, a, _, rfl, SqT.of (s1 _ _ hA), rfl, _, _, rfl, _, _, rfl, _, _, rfl, rfl, ?_⟩
        exact parts H1 _ b g m rb rm nb nm tg (hb.same s1) (hg.same s1) (hm.same s1) fun H' s => k H' (s1.trans s)
end
end K59

set_option maxRecDepth 100000
set_option maxHeartbeats 4000000
namespace Kw
open PySem PySem.Spec PyProof.Rows L2
theorem ints_at : ∀ {us : List Value} {ks : List Int}, us.length = ks.length → (∀ (j : Nat) (v : Value), us[j]? = some v → ∃ (x : Int) (t : Tok), ks[j]? = some x ∧ v = Value.int x t) → IntsAre us ks
  | [], [], _, _ => .nil
  | u :: us, k :: ks, hl, h => by
    obtain ⟨x, t, e1, e2⟩ := h 0 u rfl
    obtain rfl : k = x := Option.some.inj e1
    rw [e2]
    exact .cons _ _ (ints_at (Nat.succ.inj hl) fun j v e => h (j + 1) v e)
  | [], _ :: _, hl, _ => by cases hl
  | _ :: _, [], hl, _ => by cases hl
/-- sorted(d), d a dict whose keys are ints -/
def rSortDI : List V → Hp → VK → Prop := fun xs H Q => ∃ (a : Addr) (kvs : List (Key × V)) (ks : List Int), xs = [.ref a] ∧ Rd H a (.dK kvs) ∧ kvs.map (·.1) = ks.map Sum.inl ∧ ks.length ≤ 4000 ∧
  ∀ (ys : List Int) (p : Addr), ys.Perm ks → ys.Pairwise (· ≤ ·) → H p = none → Q (.ref p) (upd H p (.lst (ys.map V.int)))
theorem call_sortedDI {X : Cx} (hcalm : X.calm = true) : CallR X (.builtin "sorted") rSortDI := by
  intro pins s σ H xs us Q I r q
  obtain ⟨a, kvs, ks, ex, hd, hks, h64, q⟩ := q
  subst ex
  obtain ⟨u, eu, rx⟩ := vals1 r
  subst eu
  obtain rfl : u = Value.ref a := rx
  obtain ⟨z, lo, vs, rel, dd⟩ := dk_rd I.hok hd
  obtain ⟨ep, hat⟩ := dd.dictAt
  have hkeys : vs.map (·.1) = ks.map Sum.inl := rel.keys.symm.trans hks
  have hl : vs.length = ks.length := by simpa using congrArg List.length hkeys
  have h16 : vs.length ≤ sizeLine := by rw [hl]; exact Nat.le_trans h64 (by decide)
  refine Calls.call_function_entry kind_sorted plain_sorted entry_sorted (args_sorted1 _) ?_
  unfold Builtin.«sorted»
  refine wpAny_bind (m := checkCount "sorted" 1 1 _) (wpAny_pure (wpAny_bind ?_))
  refine PySem.W.kdu_collect (A := X.A.in1) (PySem.W.kdl_dict (knd := mixKind X.prog X.w) (kvs := vs) (ep := ep) lo) (I.ok.hd hcalm) hat h16 fun h' tk acc hk hacc => ?_
  have hal : acc.toList.length = ks.length := by rw [Array.length_toList, hacc.1, hl]
  have hI : IntsAre acc.toList ks := ints_at hal fun j v e => by
    obtain ⟨k, x, e1, e2⟩ := hacc.2 j v (by rw [← Array.getElem?_toList]; exact e)
    have e3 : (vs.map (·.1))[j]? = some k := by rw [List.getElem?_map, e1] <;> rfl
    rw [hkeys, List.getElem?_map] at e3
    obtain ⟨y, e4, e5⟩ := Option.map_eq_some_iff.mp e3
    subst e5
    obtain ⟨t, ev⟩ := Value.isInt_shape (k := y) (v := v) e2
    exact ⟨y, t, e4, ev⟩
  have I1 : Inv X pins σ H { s with heap := h', toks := tk } := I.kept hk
  have hZ : acc.toList.length ≤ sizeLine := by rw [hal]; exact Nat.le_trans h64 (by decide)
  refine wpAny_bind (wpAny_newList ?_ hZ)
  have hoL : (h'.push (seqObj "list" acc.toList.toArray 0)).get? h'.objs.size = some (seqObj "list" acc.toList.toArray 0) := Heap.get?_push_size _ rfl
  show wpAny _ _ _ _ _ { s with heap := h'.push (seqObj "list" acc.toList.toArray 0), toks := tk }
  refine wpAny_bind (wpAny_holding (wpAny_call_entry slot_list_sort ⟨_, hoL, rfl⟩ entry_list_sort ?_ (args_list_sort _)))
  refine SrtO.list_sort_ord SrtO.swo_int hoL hZ (fun h2 => SrtO.ints_sortable hI h2) fun out g1 g2 => ⟨_, rfl, ?_⟩
  obtain ⟨k1, k2, k3⟩ := SrtO.ints_out hI g1 g2
  obtain ⟨e', he'⟩ := sortedHeap_at (vs := acc.toList) (out := out.toArray) hoL
  have hlen : ((out.map SrtO.iv).map V.int).length ≤ sizeLine := by
    rw [List.length_map, k2.length_eq]
    exact Nat.le_trans h64 (by decide)
  refine wpAny_pure ⟨_, rfl, .ref h'.objs.size, upd H h'.objs.size (.lst ((out.map SrtO.iv).map V.int)), I1.laid (t' := tk) (fun b u e => ?_) (Nat.le_refl _)
    (show ObjOk X.prog X.w _ _ _ (.lst ((out.map SrtO.iv).map V.int)) from ⟨hlen, out, e', vals_of_ints k1, he'⟩), rfl, q _ _ k2 k3 (I1.hok.fresh (Nat.le_refl _))⟩
  have hb : b < h'.objs.size := Heap.lt_size e
  rw [sortedHeap_old (Nat.ne_of_lt hb) (by rw [size_push']; exact Nat.lt_succ_of_lt hb)]
  exact Heap.get?_push_of_some _ e
end Kw

set_option maxRecDepth 100000
set_option maxHeartbeats 4000000
namespace K59
open PySem PySem.Spec PyProof.Rows L2 Kw
/-! ### elders, as plain lists -/
def isEld (rows : List (List Nat)) (row : List Nat) (e : Nat) : Bool := row.any fun b => e == b || (rows.getD b []).contains e
def elStep (rows : List (List Nat)) (row : List Nat) : List Nat := (List.range rows.length).filter (isEld rows row)
def elders (bs : List (List Nat)) : List (List Nat) := bs.foldl (fun rows row => rows ++ [elStep rows row]) []
def validB (bs : List (List Nat)) : Prop := ∀ (c : Nat) (row : List Nat), bs[c]? = some row → ∀ b ∈ row, b < c
theorem elders_more {bs : List (List Nat)} {i : Nat} {row : List Nat} (h : bs[i]? = some row) : elders (bs.take (i + 1)) = elders (bs.take i) ++ [elStep (elders (bs.take i)) row] := by
  unfold elders
  rw [List.take_add_one, h, Option.toList_some, List.foldl_append]
  rfl
theorem elders_len : ∀ (bs : List (List Nat)), (elders bs).length = bs.length := by
  intro bs
  have key : ∀ (bs : List (List Nat)) (acc : List (List Nat)), (bs.foldl (fun rows row => rows ++ [elStep rows row]) acc).length = acc.length + bs.length := by
    intro bs
    induction bs with
    | nil => intro acc; rfl
    | cons b r ih =>
      intro acc
      rw [List.foldl_cons, ih, List.length_append]
      simp only [List.length_cons, List.length_nil]
      omega
  have z := key bs []
  rw [List.length_nil, Nat.zero_add] at z
  exact z
theorem elStep_lt {rows : List (List Nat)} {row : List Nat} {e : Nat} (h : e ∈ elStep rows row) : e < rows.length := List.mem_range.mp (List.mem_filter.mp h).1
/-- every elder of an elder row lies below -/
theorem elders_lt : ∀ (bs : List (List Nat)) (c : Nat) (l : List Nat), (elders bs)[c]? = some l → ∀ e ∈ l, e < c := by
  intro bs
  have key : ∀ (bs : List (List Nat)) (acc : List (List Nat)), (∀ (c : Nat) (l : List Nat), acc[c]? = some l → ∀ e ∈ l, e < c) → ∀ (c : Nat) (l : List Nat), (bs.foldl (fun rows row => rows ++ [elStep rows row]) acc)[c]? = some l → ∀ e ∈ l, e < c := by
    intro bs
    induction bs with
    | nil => intro acc h; exact h
    | cons b r ih =>
      intro acc h
      rw [List.foldl_cons]
      refine ih _ fun c l hc e he => ?_
      by_cases q : c < acc.length
      · rw [List.getElem?_append_left q] at hc
        exact h c l hc e he
      · rw [List.getElem?_append_right (by omega)] at hc
        by_cases q2 : c - acc.length = 0
        · rw [q2] at hc
          have e1 : elStep acc b = l := Option.some.inj hc
          rw [← e1] at he
          have := elStep_lt he
          omega
        · rw [List.getElem?_eq_none (by rw [List.length_singleton]; omega)] at hc
          cases hc
  exact key bs [] fun c l h => by simp at h
/-! ### keys of a dict, as they are put in -/
def addN (ks : List Nat) (e : Nat) : List Nat := if e ∈ ks then ks else ks ++ [e]
def KeysAre (kvs : List (Key × V)) (ks : List Nat) : Prop := kvs.map (·.1) = ks.map fun (n : Nat) => (Sum.inl (n : Int) : Key)
theorem mem_addN {ks : List Nat} {e x : Nat} : x ∈ addN ks e ↔ x ∈ ks ∨ x = e := by
  unfold addN
  by_cases h : e ∈ ks
  · rw [if_pos h]
    exact ⟨.inl, fun q => q.elim id fun z => z ▸ h⟩
  · rw [if_neg h, List.mem_append, List.mem_singleton]
theorem nodup_addN {ks : List Nat} {e : Nat} (h : ks.Nodup) : (addN ks e).Nodup := by
  unfold addN
  by_cases q : e ∈ ks
  · rw [if_pos q]
    exact h
  · rw [if_neg q]
    refine List.nodup_append.mpr ⟨h, by simp, fun a ha b hb z => q ?_⟩
    rw [List.mem_singleton.mp hb] at z
    exact z ▸ ha
theorem len_addN {ks : List Nat} {e : Nat} : (addN ks e).length ≤ ks.length + 1 := by
  unfold addN
  split
  · omega
  · rw [List.length_append, List.length_singleton]; omega
theorem keys_put {kvs : List (Key × V)} {ks : List Nat} {e : Nat} {v : V} (h : KeysAre kvs ks) : KeysAre (putK kvs (Sum.inl (e : Int)) v) (addN ks e) := by
  have hm : ∀ n : Nat, (Sum.inl (n : Int) : Key) ∈ kvs.map (·.1) ↔ n ∈ ks := fun n => by
    rw [h, List.mem_map]
    constructor
    · rintro ⟨k, hk, e⟩
      have z : (k : Int) = (n : Int) := Sum.inl.inj e
      have z2 : k = n := by omega
      subst z2
      exact hk
    · exact fun hk => ⟨n, hk, rfl⟩
  unfold putK addN
  by_cases q : e ∈ ks
  · have a : (kvs.any fun kv => decide (kv.1 = (Sum.inl (e : Int) : Key))) = true := by
      obtain ⟨kv, h1, h2⟩ := List.mem_map.mp ((hm e).mpr q)
      exact List.any_eq_true.mpr ⟨kv, h1, decide_eq_true h2⟩
    rw [if_pos a, if_pos q]
    unfold KeysAre
    rw [List.map_map, ← h]
    refine List.map_congr_left fun kv _ => ?_
    show (if kv.1 = Sum.inl (e : Int) then (kv.1, v) else kv).1 = kv.1
    split <;> rfl
  · have a : ¬ (kvs.any fun kv => decide (kv.1 = (Sum.inl (e : Int) : Key))) = true := fun z => by
      obtain ⟨kv, h1, h2⟩ := List.any_eq_true.mp z
      exact q ((hm e).mp (List.mem_map.mpr ⟨kv, h1, of_decide_eq_true h2⟩))
    rw [if_neg a, if_neg q]
    unfold KeysAre
    rw [List.map_append, List.map_append, h]
    rfl
/-! ### a list of tuples of numbers -/
def natV (n : Nat) : V := V.int (n : Int)
def TupsAt (H : Hp) : List V → List (List Nat) → Prop := Paired fun v l => ∃ t, v = .ref t ∧ H t = some (.tup (l.map natV))
theorem TupsAt.mono {H H' : Hp} (k : ∀ b xs, H b = some (.tup xs) → H' b = some (.tup xs)) : ∀ {vs : List V} {ls : List (List Nat)}, TupsAt H vs ls → TupsAt H' vs ls
  | [], [], _ => .nil
  | _ :: _, _ :: _, .cons ⟨t, e, h⟩ r => .cons ⟨t, e, k _ _ h⟩ (TupsAt.mono k r)
theorem TupsAt.same {H H' : Hp} {vs : List V} {ls : List (List Nat)} (h : TupsAt H vs ls) (s : Same H H') : TupsAt H' vs ls := h.mono fun b xs e => s b _ e
theorem TupsAt.len {H : Hp} {vs : List V} {ls : List (List Nat)} (h : TupsAt H vs ls) : vs.length = ls.length := Paired.length h
theorem TupsAt.get {H : Hp} : ∀ {vs : List V} {ls : List (List Nat)} {i : Nat} {l : List Nat}, TupsAt H vs ls → ls[i]? = some l → ∃ t, vs[i]? = some (.ref t) ∧ H t = some (.tup (l.map natV))
  | [], [], _, _, _, h => by simp at h
  | _ :: _, _ :: _, 0, _, .cons ⟨t, e1, h⟩ _, e => by
    obtain rfl := Option.some.inj e
    exact ⟨t, by rw [e1]; rfl, h⟩
  | _ :: _, _ :: _, i + 1, _, .cons _ r, e => TupsAt.get (i := i) r e
theorem TupsAt.app {H : Hp} : ∀ {vs us : List V} {ls ms : List (List Nat)}, TupsAt H vs ls → TupsAt H us ms → TupsAt H (vs ++ us) (ls ++ ms)
  | [], _, [], _, _, h => h
  | _ :: _, _, _ :: _, _, .cons h r, s => .cons h (TupsAt.app r s)
/-- a list's or a dict's place written: tuples stand -/
theorem tups_upd {H : Hp} {a : Addr} {o u : HO} (ha : H a = some o) (hn : ∀ xs, o ≠ .tup xs) : ∀ b xs, H b = some (.tup xs) → upd H a u b = some (.tup xs) := fun b xs e => by
  have ne : b ≠ a := fun z => by
    rw [z, ha] at e
    exact hn xs (Option.some.inj e)
  rw [upd_ne ne]
  exact e
theorem sorted_one {ys : List Int} {a b : List Nat} (p : ys.Perm (a.map fun (n : Nat) => (n : Int))) (hs : ys.Pairwise (· ≤ ·)) (ha : a.Nodup) (hb : b.Nodup) (hm : ∀ x, x ∈ a ↔ x ∈ b) (hbs : b.Pairwise (· < ·)) : ys.map V.int = b.map natV := by
  have p2 : ys.Perm (b.map fun (n : Nat) => (n : Int)) := p.trans (((List.perm_ext_iff_of_nodup ha hb).mpr hm).map _)
  have hb2 : (b.map fun (n : Nat) => (n : Int)).Pairwise (· ≤ ·) := List.pairwise_map.mpr (hbs.imp fun h => by omega)
  have e : ys = b.map fun (n : Nat) => (n : Int) := p2.eq_of_pairwise (fun x y _ _ h1 h2 => Int.le_antisymm h1 h2) hs hb2
  rw [e, List.map_map]
  rfl
end K59

set_option maxRecDepth 100000
set_option maxHeartbeats 4000000
namespace K59
open PySem PySem.Spec PyProof.Rows L2 Kw
theorem same_upd {H0 H1 : Hp} {p : Addr} {o : HO} (s : Same H0 H1) (hp : H0 p = none) : Same H0 (upd H1 p o) := fun b u e => by
  rw [upd_ne (ne_of_none e hp)]
  exact s b u e
/-- a dict that holds just these numbers as keys -/
def DictHas (H : Hp) (p : Addr) (P : Nat → Prop) (n : Nat) : Prop := ∃ kvs ks, H p = some (.dK kvs) ∧ KeysAre kvs ks ∧ ks.Nodup ∧ ks.length ≤ n ∧ kvs.length ≤ n ∧ ∀ x, x ∈ ks ↔ P x
theorem DictHas.put {H : Hp} {p : Addr} {P : Nat → Prop} {n e : Nat} {v : V} (h : DictHas H p P n) (hn : n < sizeLine) : ∃ H', DPut H p (.int (e : Int)) v H' ∧ (∃ o, H' = upd H p o) ∧ DictHas H' p (fun x => P x ∨ x = e) (n + 1) := by
  obtain ⟨kvs, ks, h1, h2, h3, h4, h5, h6⟩ := h
  refine ⟨_, DPut.k (k := Sum.inl (e : Int)) h1 (by omega), ⟨_, rfl⟩, _, addN ks e, upd_same, keys_put h2, nodup_addN h3, Nat.le_trans len_addN (by omega), Nat.le_trans (length_putK _ _ _) (by omega), fun x => ?_⟩
  rw [mem_addN, h6]
theorem DictHas.iff {H : Hp} {p : Addr} {P P' : Nat → Prop} {n : Nat} (h : DictHas H p P n) (k : ∀ x, P x ↔ P' x) : DictHas H p P' n := by
  obtain ⟨kvs, ks, h1, h2, h3, h4, h5, h6⟩ := h
  exact ⟨kvs, ks, h1, h2, h3, h4, h5, fun x => (h6 x).trans (k x)⟩
theorem DictHas.le {H : Hp} {p : Addr} {P : Nat → Prop} {n m : Nat} (h : DictHas H p P n) (k : n ≤ m) : DictHas H p P m := by
  obtain ⟨kvs, ks, h1, h2, h3, h4, h5, h6⟩ := h
  exact ⟨kvs, ks, h1, h2, h3, by omega, by omega, h6⟩
theorem elStep_mem {rows : List (List Nat)} {row : List Nat} (hlt : ∀ b ∈ row, b < rows.length) (hr : ∀ (c : Nat) (l : List Nat), rows[c]? = some l → ∀ e ∈ l, e < c) (x : Nat) : x ∈ elStep rows row ↔ ∃ b ∈ row, x = b ∨ x ∈ rows.getD b [] := by
  unfold elStep isEld
  rw [List.mem_filter, List.mem_range, List.any_eq_true]
  constructor
  · rintro ⟨_, b, hb, h⟩
    refine ⟨b, hb, ?_⟩
    rw [Bool.or_eq_true] at h
    exact h.imp (fun h => by simpa using h) fun h => by simpa using h
  · rintro ⟨b, hb, h⟩
    have hbl := hlt b hb
    refine ⟨?_, b, hb, ?_⟩
    · rcases h with h | h
      · omega
      · have e : rows[b]? = some (rows.getD b []) := by
          rw [List.getElem?_eq_getElem hbl, List.getD_eq_getElem?_getD, List.getElem?_eq_getElem hbl]
          rfl
        have := hr b _ e x h
        omega
    · rw [Bool.or_eq_true]
      exact h.imp (fun h => by simpa using h) fun h => by simpa using h
theorem elStep_up (rows : List (List Nat)) (row : List Nat) : (elStep rows row).Pairwise (· < ·) := List.Pairwise.filter _ List.pairwise_lt_range
theorem elStep_len (rows : List (List Nat)) (row : List Nat) : (elStep rows row).length ≤ rows.length := by
  have := List.length_filter_le (isEld rows row) (List.range rows.length)
  rw [List.length_range] at this
  exact this
theorem up_nodup {l : List Nat} (h : l.Pairwise (· < ·)) : l.Nodup := h.imp fun h => Nat.ne_of_lt h
theorem elders_len_row : ∀ (bs : List (List Nat)) (c : Nat) (l : List Nat), (elders bs)[c]? = some l → l.length ≤ bs.length := by
  intro bs
  have key : ∀ (bs : List (List Nat)) (acc : List (List Nat)), (∀ l ∈ acc, l.length ≤ acc.length) → ∀ l ∈ bs.foldl (fun rows row => rows ++ [elStep rows row]) acc, l.length ≤ acc.length + bs.length := by
    intro bs
    induction bs with
    | nil => intro acc h l hl; exact Nat.le_trans (h l hl) (Nat.le_add_right _ _)
    | cons b r ih =>
      intro acc h l hl
      rw [List.foldl_cons] at hl
      have hlen : (acc ++ [elStep acc b]).length = acc.length + 1 := by rw [List.length_append]; rfl
      have := ih (acc ++ [elStep acc b]) (fun l hl => by
        rw [hlen]
        rcases List.mem_append.mp hl with hl | hl
        · exact Nat.le_succ_of_le (h l hl)
        · rw [List.mem_singleton.mp hl]
          exact Nat.le_succ_of_le (elStep_len _ _)) l hl
      rw [hlen] at this
      rw [List.length_cons]
      omega
  intro c l h
  have := key bs [] (fun l hl => by cases hl) l (List.mem_of_getElem? h)
  rw [List.length_nil, Nat.zero_add] at this
  exact this
section
variable {P : Program} {w : World} {K : PySem.W.Frag} {mg : Str → Option Value} {base : Heap} {f : Addr} {fd : FuncData}
def spElders : Sp := fun vs H Q _ => ∃ (a : Addr) (ws : List V) (bs : List (List Nat)), vs = [.ref a] ∧ H a = some (.tup ws) ∧ TupsAt H ws bs ∧ validB bs ∧ bs.length ≤ 12 ∧ (∀ row ∈ bs, row.length ≤ 12) ∧
  ∀ H' p us, Same H H' → H' p = some (.tup us) → TupsAt H' us (elders bs) → Q (.ref p) H'
theorem sc_elders : FnScope ["bases", "rows", "row", "found", "base", "elder"] ["bases"] (defScope (top 20)) := ⟨rfl, rfl, rfl, by decide +kernel, rfl, by decide +kernel, by decide +kernel⟩
theorem ok_elders (F : FnP K "elder_rows" 20 f fd) (B : Fr mg) : FnOk P w K mg base CX0 1 f fd ["bases"] spElders := by
  refine F.ok sc_elders (fun vs H Q E h => ?_) (fun cdv A outer s H vs Q E hr h => ?_)
  · obtain ⟨a, ws, bs, rfl, _⟩ := h
    rfl
  · obtain ⟨a, ws, bs, rfl, hA, hT, hv, h12, hr12, k⟩ := h
    refine ⟨_, PSs.nox (pss_cons (ps_set (i := 1) sc_elders.nd rfl (Or.inl rfl) (pe_lst pa_nil))
      (pss_cons (ps_for PassesOwn.never rfl (pi_tup (pv 0)) (pg_name (i := 2) sc_elders.nd rfl (Or.inl rfl))
        (pss_cons (ps_set (i := 3) sc_elders.nd rfl (Or.inl rfl) pe_dnewK)
        (pss_cons (ps_for PassesOwn.never rfl (pi_tup (pv 2)) (pg_name (i := 4) sc_elders.nd rfl (Or.inl rfl))
          (pss_cons (ps_dput (hu_of hr) (pv 3) (pv 4) pe_bl rfl)
          (pss_one (ps_for PassesOwn.never rfl (pi_tup (pe_ix ix_list (pv 1) (pv 4) (fun _ _ => rfl))) (pg_name (i := 5) sc_elders.nd rfl (Or.inl rfl))
            (pss_one (ps_dput (hu_of hr) (pv 3) (pv 5) pe_bl rfl))))))
        (pss_one (ps_expr (pe_bm PySem.F.plainAttrs_list PySem.F.slot_list_append PySem.F.type_list_append mt_append (pv 1) (pa_cons (pe_callTy call_tuple_of (by rfl) B.tuple (by decide +kernel) (pa_cons (pe_callB (Kw.call_sortedDI rfl) (by rfl) B.sorted (by decide +kernel) (pa_cons (pv 3) pa_nil)) pa_nil)) pa_nil)))))))
      (pss_one (ps_ret (pe_callTy call_tuple_of (by rfl) B.tuple (by decide +kernel) (pa_cons (pv 1) pa_nil)))))), ?_⟩
    refine ⟨by decide, fun R hR => ?_⟩
    refine ⟨_, rfl, a, rfl, ⟨_, SqT.of (same_new hR _ _ hA)⟩, for_tup (K := K) (a := a) (xs := ws) (fun i σ H' => Same H H' ∧ ∃ us x y z u, σ = [some (.ref a), some (.ref R), x, y, z, u] ∧ H' R = some (.lst us) ∧ TupsAt H' us (elders (bs.take i)))
      ⟨same_new hR, [], none, none, none, none, rfl, upd_same, .nil⟩ (fun i σ H' _ h => SqT.of (h.1 _ _ hA)) ?_ ?_⟩
    · rintro i y σ H' hi ⟨sH, us, x0, y0, z0, u0, rfl, hRu, hU⟩
      have hbl : ws.length = bs.length := hT.len
      have hil : i < bs.length := by
        rw [← hbl]
        exact (List.getElem?_eq_some_iff.mp hi).1
      obtain ⟨row, hrow⟩ : ∃ row, bs[i]? = some row := ⟨_, List.getElem?_eq_getElem hil⟩
      obtain ⟨t, et, ht⟩ := hT.get hrow
      obtain rfl : V.ref t = y := Option.some.inj (et.symm.trans hi)
      have hE : (elders (bs.take i)).length = i := by rw [elders_len, List.length_take, Nat.min_eq_left (Nat.le_of_lt hil)]
      have hlt : ∀ b ∈ row, b < i := hv i row hrow
      have hrl : row.length ≤ 12 := hr12 row (List.mem_of_getElem? hrow)
      have hus : us.length = i := hU.len.trans hE
      refine fun p hp => ?_
      have sp : Same H' (upd H' p (.dK [])) := same_new hp
      refine ⟨_, rfl, t, rfl, ⟨_, SqT.of (sp _ _ (sH _ _ ht))⟩, for_tup (K := K) (a := t) (xs := row.map natV) (fun j σ H2 => Same H' H2 ∧ ∃ z u, σ = [some (.ref a), some (.ref R), some (.ref t), some (.ref p), z, u] ∧ DictHas H2 p (fun x => ∃ b ∈ row.take j, x = b ∨ x ∈ (elders (bs.take i)).getD b []) (j * 14))
        ⟨sp, z0, u0, rfl, [], [], upd_same, rfl, List.nodup_nil, Nat.zero_le _, Nat.zero_le _, fun x => by simp⟩ (fun j σ H2 _ h => SqT.of (h.1 _ _ (sH _ _ ht))) ?_ ?_⟩
      · rintro j y σ H2 hj ⟨s2, z1, u1, rfl, hD⟩
        rw [List.getElem?_map] at hj
        obtain ⟨b, hb, rfl⟩ := Option.map_eq_some_iff.mp hj
        have hjl : j < row.length := (List.getElem?_eq_some_iff.mp hb).1
        have hbi : b < i := hlt b (List.mem_of_getElem? hb)
        obtain ⟨H3, hput, ⟨o3, e3⟩, hD3⟩ := hD.put (e := b) (v := .bl true) (by show j * 14 < 2 ^ 24; omega)
        have s3 : Same H' H3 := by
          rw [e3]
          exact same_upd s2 hp
        refine ⟨_, rfl, _, rfl, p, H3, rfl, hput, ?_⟩
        obtain ⟨l, hl⟩ : ∃ l, (elders (bs.take i))[b]? = some l := ⟨_, List.getElem?_eq_getElem (by rw [hE]; exact hbi)⟩
        have hgd : (elders (bs.take i)).getD b [] = l := by
          rw [List.getD_eq_getElem?_getD, hl]
          rfl
        have hll : l.length ≤ 12 := by
          have := elders_len_row _ _ _ hl
          rw [List.length_take] at this
          omega
        obtain ⟨q, eq, hq⟩ := hU.get hl
        refine ⟨_, rfl, _, rfl, R, us, _, _, rfl, rfl, SqL.of (s3 _ _ hRu), atI_nat eq, q, rfl, ⟨_, SqT.of (s3 _ _ hq)⟩, for_tup (K := K) (a := q) (xs := l.map natV) (fun m σ H4 => Same H' H4 ∧ ∃ u, σ = [some (.ref a), some (.ref R), some (.ref t), some (.ref p), some (natV b), u] ∧ DictHas H4 p (fun x => ((∃ b ∈ row.take j, x = b ∨ x ∈ (elders (bs.take i)).getD b []) ∨ x = b) ∨ x ∈ l.take m) (j * 14 + 1 + m))
          ⟨s3, u1, rfl, hD3.iff fun x => by simp⟩ (fun m σ H4 _ h => SqT.of (h.1 _ _ hq)) ?_ ?_⟩
        · rintro m y σ H4 hm ⟨s4, u2, rfl, hD4⟩
          rw [List.getElem?_map] at hm
          obtain ⟨e, he, rfl⟩ := Option.map_eq_some_iff.mp hm
          have hml : m < l.length := (List.getElem?_eq_some_iff.mp he).1
          obtain ⟨H5, hput5, ⟨o5, e5⟩, hD5⟩ := hD4.put (e := e) (v := .bl true) (by show j * 14 + 1 + m < 2 ^ 24; omega)
          refine ⟨_, rfl, _, rfl, p, H5, rfl, hput5, by rw [e5]; exact same_upd s4 hp, _, rfl, hD5.iff fun x => ?_⟩
          rw [List.take_add_one, he, Option.toList_some, List.mem_append, List.mem_singleton, or_assoc]
        · rintro σ H4 ⟨s4, u2, rfl, hD4⟩
          rw [List.length_map] at hD4
          refine ⟨s4, _, _, rfl, (hD4.iff fun x => ?_).le (by omega)⟩
          rw [List.take_add_one, hb, Option.toList_some, List.take_length]
          constructor
          · rintro ((⟨c, hc, h⟩ | h) | h)
            · exact ⟨c, List.mem_append_left _ hc, h⟩
            · exact ⟨b, List.mem_append_right _ (List.mem_singleton.mpr rfl), .inl h⟩
            · exact ⟨b, List.mem_append_right _ (List.mem_singleton.mpr rfl), .inr (by rw [hgd]; exact h)⟩
          · rintro ⟨c, hc, h⟩
            rcases List.mem_append.mp hc with hc | hc
            · exact .inl (.inl ⟨c, hc, h⟩)
            · obtain rfl := List.mem_singleton.mp hc
              rcases h with h | h
              · exact .inl (.inr h)
              · rw [hgd] at h
                exact .inr h
      · rintro σ H2 ⟨s2, z1, u1, rfl, kvs, ks, h1, h2, h3, h4, h5, h6⟩
        rw [List.length_map, List.take_length] at h6
        rw [List.length_map] at h4
        refine ⟨_, rfl, .inl ⟨rfl, _, SqL.of (s2 _ _ hRu)⟩, _, rfl, p, kvs, ks.map fun (n : Nat) => (n : Int), rfl, .inl h1, ?_, ?_, fun ys L perm srt hL => ?_⟩
        · rw [h2, List.map_map]
          rfl
        · rw [List.length_map]
          omega
        · have sL : Same H2 (upd H2 L (.lst (ys.map V.int))) := same_new hL
          refine ⟨L, ys.map V.int, rfl, .inl ⟨SqL.of upd_same, fun T hT' => ?_⟩⟩
          have sT : Same (upd H2 L (.lst (ys.map V.int))) (upd (upd H2 L (.lst (ys.map V.int))) T (.tup (ys.map V.int))) := same_new hT'
          have sAll := (s2.trans sL).trans sT
          have eys : ys.map V.int = (elStep (elders (bs.take i)) row).map natV := sorted_one perm srt h3 (up_nodup (elStep_up _ _)) (fun x => (h6 x).trans (elStep_mem (fun b hb => by rw [hE]; exact hlt b hb) (elders_lt _) x).symm) (elStep_up _ _)
          refine ⟨R, us, _, rfl, rfl, sAll _ _ hRu, by rw [hus]; show i < 2 ^ 24; omega, same_upd ((sH.trans s2).trans (sL.trans sT)) hR, us ++ [.ref T], _, _, _, _, rfl, upd_same, ?_⟩
          have keep : ∀ b xs, upd (upd H2 L (.lst (ys.map V.int))) T (.tup (ys.map V.int)) b = some (.tup xs) → upd (upd (upd H2 L (.lst (ys.map V.int))) T (.tup (ys.map V.int))) R (.lst (us ++ [.ref T])) b = some (.tup xs) := tups_upd (sAll _ _ hRu) fun xs z => by cases z
          rw [elders_more hrow]
          refine ((hU.same sAll).mono keep).app (.cons ⟨T, rfl, ?_⟩ .nil)
          rw [← eys]
          exact keep _ _ upd_same
    · rintro σ H' ⟨sH, us, x0, y0, z0, u0, rfl, hRu, hU⟩
      have hbl : ws.length = bs.length := hT.len
      rw [hbl, List.take_length] at hU
      refine ⟨_, rfl, R, us, rfl, .inl ⟨SqL.of hRu, fun p hp => ?_⟩⟩
      exact k _ p us (sH.trans (same_new hp)) upd_same (hU.same (same_new hp))
end
end K59

set_option maxRecDepth 100000
set_option maxHeartbeats 4000000
namespace K59
open PySem PySem.Spec PyProof.Rows L2 Kw
def heirRow (es : List (List Nat)) (n c : Nat) : List Nat := (List.range n).filter fun h => (es.getD h []).contains c
def heirs (es : List (List Nat)) : List (List Nat) := (List.range es.length).map (heirRow es es.length)
theorem inV_nat (c : Nat) : ∀ l : List Nat, inV (natV c) (l.map natV) = l.contains c
  | [] => rfl
  | x :: r => by
    unfold inV
    rw [List.map_cons, List.any_cons, List.contains_cons]
    have ih := inV_nat c r
    unfold inV at ih
    rw [ih]
    congr 1
    show ((x : Int) == (c : Int)) = (c == x)
    rw [Bool.eq_iff_iff, beq_iff_eq, beq_iff_eq]
    omega
theorem flat_nats : ∀ l : List Nat, (l.map natV).all flatV = true
  | [] => rfl
  | _ :: r => by
    rw [List.map_cons, List.all_cons, flat_nats r]
    rfl
theorem heirRow_more (es : List (List Nat)) (n c i : Nat) (hi : i < n) : ((List.range n).take (i + 1)).filter (fun h => (es.getD h []).contains c) = ((List.range n).take i).filter (fun h => (es.getD h []).contains c) ++ (if (es.getD i []).contains c then [i] else []) := by
  rw [List.take_add_one, List.filter_append, List.getElem?_range hi, Option.toList_some]
  congr 1
  cases h : (es.getD i []).contains c with
  | true => rw [List.filter_cons_of_pos (by exact h)]; rfl
  | false => rw [List.filter_cons_of_neg (by show ¬ (es.getD i []).contains c = true; rw [h]; decide)]; rfl
/-- tuple(xs) -/
structure rTupOf (K : PySem.W.Frag) (xs : List V) (H : Hp) (Q : VK) : Prop where
  h : ∃ p ys, xs = [.ref p] ∧ ((SqL K H p ys ∧ ∀ l, H l = none → Q (.ref l) (upd H l (.tup ys))) ∨ (SqT K H p ys ∧ Q (.ref p) H))
theorem call_tup {X : Cx} : CallR X (.type "tuple") (rTupOf X.K) := fun pins s σ H vs us Q I r h => call_tuple_of pins s σ H vs us Q I r h.h
section
variable {P : Program} {w : World} {K : PySem.W.Frag} {mg : Str → Option Value} {base : Heap} {f : Addr} {fd : FuncData}
def spHeirs : Sp := fun vs H Q _ => ∃ (a : Addr) (ws : List V) (es : List (List Nat)), vs = [.ref a] ∧ H a = some (.tup ws) ∧ TupsAt H ws es ∧ es.length ≤ 12 ∧ ∀ H' p us, Same H H' → H' p = some (.tup us) → TupsAt H' us (heirs es) → Q (.ref p) H'
theorem sc_heirs : FnScope ["elders", "many", "c", "heir"] ["elders"] (defScope (top 21)) := ⟨rfl, rfl, rfl, by decide +kernel, rfl, by decide +kernel, by decide +kernel⟩
theorem ok_heirs (F : FnP K "heir_rows" 21 f fd) (B : Fr mg) : FnOk P w K mg base CX0 1 f fd ["elders"] spHeirs := by
  refine F.ok sc_heirs (fun vs H Q E h => ?_) (fun cdv A outer s H vs Q E hr h => ?_)
  · obtain ⟨a, ws, es, rfl, _⟩ := h
    rfl
  · obtain ⟨a, ws, es, rfl, hA, hT, h12, k⟩ := h
    refine ⟨_, PSs.nox (pss_cons (ps_set (i := 1) sc_heirs.nd rfl (Or.inr rfl) (pe_callB call_len_seq (by rfl) B.len PySem.boot_len (pa_cons (pv 0) pa_nil)))
      (pss_one (ps_ret (pe_callTy call_tuple_of (by rfl) B.tuple (by decide +kernel) (pa_cons
        (pe_lc (own := [("c", 2)]) (g := gName 2) (tt := tYes) rfl sc_heirs.nd (pi_range1 (by rfl) B.range (pa_cons (pv 1) pa_nil)) (blkOk_by (N := ["elders", "many", "c", "heir"]) (sc := defScope (top 21)) (by decide +kernel))
          (fun _ _ _ _ _ => pg_name (i := 2) sc_heirs.nd rfl (Or.inr rfl)) (fun _ _ _ _ _ => pts_nil)
          (fun _ _ _ _ _ => pe_callTy (T := "tuple") (r := rTupOf K) (call_tup (X := _)) (by rfl) B.tuple (by decide +kernel) (pa_cons
            (pe_lc (own := [("heir", 3)]) (g := gName 3) rfl sc_heirs.nd (pi_range1 (by rfl) B.range (pa_cons (pv 1) pa_nil)) (blkOk_by (by rfl))
              (fun _ _ _ _ _ => pg_name (i := 3) sc_heirs.nd rfl (Or.inl rfl)) (fun _ _ _ _ _ => pts_one (pt_cmpR (r := rIn K false) op_in_seq (pv 2) (pe_ix (r := rIxT K) ix_tup (pv 0) (pv 3) (fun _ _ => rfl)) (by rfl)))
              (fun _ _ _ _ _ => pv 3)) pa_nil))) pa_nil))))), ?_⟩
    have hbl : ws.length = es.length := hT.len
    refine ⟨_, rfl, a, ws, rfl, .inr (SqT.of hA), ?_⟩
    refine ⟨_, rfl, _, rfl, by omega, by omega, fun D hD => lc_range (n := ws.length) (fun i H2 => Same H H2 ∧ ∃ us, H2 D = some (.lst us) ∧ TupsAt H2 us ((heirs es).take i))
      ⟨same_new hD, [], upd_same, .nil⟩ ?_ ?_⟩
    · rintro i H2 hi ⟨s2, us, hDu, hU⟩
      have hlen : (heirs es).length = ws.length := by
        unfold heirs
        rw [List.length_map, List.length_range, hbl]
      have hrow : (heirs es)[i]? = some (heirRow es ws.length i) := by
        unfold heirs
        rw [List.getElem?_map, List.getElem?_range (by omega), hbl]
        rfl
      have husl : us.length = i := by
        rw [hU.len, List.length_take, hlen]
        omega
      refine ⟨rfl, _, rfl, _, rfl, by omega, by omega, fun D2 hD2 => lc_range (n := ws.length) (fun j H3 => Same H2 H3 ∧ H3 D2 = some (.lst ((((List.range ws.length).take j).filter fun h => (es.getD h []).contains i).map natV)))
        ⟨same_new hD2, upd_same⟩ ?_ ?_⟩
      · rintro j H3 hj ⟨s3, hD3⟩
        obtain ⟨l, hl⟩ : ∃ l, es[j]? = some l := ⟨_, List.getElem?_eq_getElem (by omega)⟩
        have hgd : es.getD j [] = l := by
          rw [List.getD_eq_getElem?_getD, hl]
          rfl
        obtain ⟨t, et, ht⟩ := hT.get hl
        have e0 : (0 : Int) + (i : Int) = (i : Int) := Int.zero_add _
        refine ⟨rfl, _, rfl, _, rfl, _, rfl, a, ws, (0 : Int) + (j : Int), _, rfl, rfl, SqT.of (s3 _ _ (s2 _ _ hA)), by rw [Int.zero_add]; exact atI_nat et, t, _, rfl, .inr (SqT.of (s3 _ _ (s2 _ _ ht))), rfl, flat_nats l, _, rfl, ?_⟩
        have ein : inV (.int ((0 : Int) + (i : Int))) (l.map natV) = l.contains i := by
          rw [e0]
          exact inV_nat i l
        show (if inV (.int ((0 : Int) + (i : Int))) (l.map natV) = true then _ else _)
        rw [ein]
        have hm := heirRow_more es ws.length i j hj
        rw [hgd] at hm
        cases hb : l.contains i with
        | true =>
          rw [hb, if_pos rfl] at hm
          rw [if_pos rfl]
          refine ⟨_, rfl, _, hD3, ?_, same_upd s3 hD2, ?_⟩
          · rw [List.length_map]
            refine Nat.lt_of_le_of_lt (List.length_filter_le _ _) ?_
            rw [List.length_take]
            show _ < 2 ^ 24
            omega
          · rw [hm, List.map_append, upd_same, Int.zero_add]
            rfl
        | false =>
          rw [hb, if_neg (by decide), List.append_nil] at hm
          rw [if_neg (by decide)]
          exact ⟨s3, by rw [hm]; exact hD3⟩
      · rintro H3 ⟨s3, hD3⟩
        rw [List.take_of_length_le (by rw [List.length_range]; exact Nat.le_refl _)] at hD3
        refine ⟨D2, _, rfl, .inl ⟨SqL.of hD3, fun T hT' => ?_⟩⟩
        have sT := s3.trans (same_new (o := .tup ((heirRow es ws.length i).map natV)) hT')
        refine ⟨us, sT _ _ hDu, by rw [husl]; show i < 2 ^ 24; omega, same_upd (s2.trans sT) hD, us ++ [.ref T], upd_same, ?_⟩
        have keep : ∀ b xs, upd H3 T (.tup ((heirRow es ws.length i).map natV)) b = some (.tup xs) → upd (upd H3 T (.tup ((heirRow es ws.length i).map natV))) D (.lst (us ++ [.ref T])) b = some (.tup xs) := tups_upd (sT _ _ hDu) fun xs z => by cases z
        rw [List.take_add_one, hrow, Option.toList_some]
        exact ((hU.same sT).mono keep).app (.cons ⟨T, rfl, keep _ _ upd_same⟩ .nil)
    · rintro H2 ⟨s2, us, hDu, hU⟩
      rw [List.take_of_length_le (by unfold heirs; rw [List.length_map, List.length_range, hbl]; exact Nat.le_refl _)] at hU
      refine ⟨D, us, rfl, .inl ⟨SqL.of hDu, fun p hp => ?_⟩⟩
      exact k _ p us (s2.trans (same_new hp)) upd_same (hU.same (same_new hp))
end
end K59

set_option maxRecDepth 100000
set_option maxHeartbeats 4000000
namespace PySem
open Sem (wp)
open AutoSeq1 (wpAny_loadPart')
theorem meets_enumerate_newV {v : Value} {o : Obj} {H : Heap → Prop} (B : Begins v o H) :
    Meets (Builtin.«enumerate.__new__» ⟨[.type "enumerate", v], []⟩) (fun _ R s => H s.heap ∧
      R (.ok (.ret (.ref (s.heap.push o).objs.size))) { s with heap := (s.heap.push o).push { cls := .type "enumerate", data := .fields #[.none, .bool false, .ref s.heap.objs.size, rawInt 0, .none, .none] } }) :=
  .of_wp fun prog w A R s h => by
    obtain ⟨hp, g, d, tk, os⟩ := s; obtain ⟨h1, h⟩ := h
    have hsub := sub_enumerate
    have q1 : ∀ {A' : Around} {E : Value → Shared → Prop} {Q : Value → Shared → Prop}, Q (.ref hp.objs.size) ⟨hp.push o, g, d, tk, os⟩ → wpAny (model prog w) A' (pyIter v) Q E ⟨hp, g, d, tk, os⟩ :=
      fun q => B.iter prog w _ _ ⟨hp, g, d, tk, os⟩ _ h1 q
    wp_walk using q1
    refine wpAny_stack_any fun st => wpAny_pure ?_
    split
    · rename_i c _ _ _ _ _
      cases (c == Value.type "enumerate")
      · wp_walk using q1
        exact ⟨_, rfl, h⟩
      · wp_walk using q1
        exact ⟨_, rfl, h⟩
    · wp_walk using q1
      exact ⟨_, rfl, h⟩
section
variable {prog : Program} {w : World} {A : Around} {E : Value → Shared → Prop} {s : Shared}
theorem call_enumerate_tuple {l : Addr} {items : Array Value} {Q : Value → Shared → Prop} (hL : s.heap.IsTuple l items)
    (h : ∀ h', IsEnum h' (s.heap.objs.size + 1) s.heap.objs.size 0 .none → h'.IsTupleIter s.heap.objs.size l 0 → h'.objs.size = s.heap.objs.size + 2 →
      (∀ b o, s.heap.get? b = some o → h'.get? b = some o) → Q (.ref (s.heap.objs.size + 1)) { s with heap := h' }) :
    wpAny (model prog w) A (call (.type "enumerate") [.ref l]) Q E s := by
  refine callType_new F.called_enumerate (by decide) (F.typeCall_enumerate_1 _) (F.newCall_enumerate_1 _) (fun obj => F.args_object_init_2 obj _) F.entry_enumerate_new
    (meets_enumerate_newV (begins_tuple l items)) ⟨hL, ?_⟩
  have hz : (s.heap.push { cls := .type "tuple_iterator", data := .fields #[.ref l, .int 0 0] }).objs.size = s.heap.objs.size + 1 := Heap.size_push ..
  show _ ∧ _
  rw [hz]
  have he : IsEnum ((s.heap.push { cls := .type "tuple_iterator", data := .fields #[.ref l, .int 0 0] }).push
      { cls := .type "enumerate", data := .fields #[.none, .bool false, .ref s.heap.objs.size, rawInt 0, .none, .none] }) (s.heap.objs.size + 1) s.heap.objs.size 0 .none := by
    have := Heap.get?_push_size (s.heap.push { cls := .type "tuple_iterator", data := .fields #[.ref l, .int 0 0] })
      (o := { cls := .type "enumerate", data := .fields #[.none, .bool false, .ref s.heap.objs.size, rawInt 0, .none, .none] }) rfl
    rw [hz] at this; exact this
  refine ⟨⟨_, he, rfl⟩, h _ he ⟨_, Heap.get?_push_of_some _ (Heap.get?_push_size _ rfl), rfl, rfl⟩ (by rw [Heap.size_push, hz]) fun b o x => Heap.get?_push_of_some _ (Heap.get?_push_of_some _ x)⟩
end
end PySem
namespace L2
open PySem PySem.Spec PyProof.Rows
/-- the tuple at a, each item in a new pair -/
def Itet (K : PySem.W.Frag) (a : Addr) : It :=
  ⟨fun i H => ∃ (xs : List V) (x : V), SqT K H a xs ∧ xs[i]? = some x, fun i H v H' => ∃ T x, v = .ref T ∧ H T = none ∧ H' = upd H T (.tup [.int (i : Nat), x]) ∧ ∀ xs, SqT K H a xs → xs[i]? = some x, fun i H => ∃ xs : List V, SqT K H a xs ∧ xs.length = i⟩
theorem turn_enumT {P : Program} {w : World} {K : PySem.W.Frag} {elts : List Expr} {kk : Nat} {tpos : Pos} (a e it : Addr) :
    Turn P w K (.Tuple elts kk tpos) (Itet K a) [e, it] e (fun i h => (∃ old, IsEnum h e it ((i : Nat) : Int) old) ∧ h.IsTupleIter it a i ∧ e ≠ it) where
  mem := by simp
  obj := fun i h st b hb => by
    obtain ⟨⟨old, he⟩, ⟨o, ho, hc, hd⟩, _⟩ := st
    have e' : b = e ∨ b = it := by simpa using hb
    rcases e' with z | z
    · rw [z]; exact ⟨_, he, fun v q => nomatch q⟩
    · rw [z]; exact ⟨o, ho, fun v q => by rw [hd] at q; cases q⟩
  keep := fun i h h' st k => let ⟨⟨old, he⟩, hi, hne⟩ := st; ⟨⟨old, k e (by simp) _ he⟩, hi.at fun o q => k it (by simp) o q, hne⟩
  item := by
    intro X hP hw hK hc i pins s σ H E I hf st hg
    subst hP hw hK
    obtain ⟨⟨old, he⟩, hit, hne⟩ := st
    obtain ⟨xs, x, hq, hx⟩ := hg
    obtain ⟨its, rv, p, hz⟩ := I.tuple hq
    obtain ⟨u, hu, ru⟩ := rv.get hx
    have hT0 : s.heap.IsTuple a its.toArray := p
    have hel : e < s.heap.objs.size := Heap.lt_size he
    have hil : it < s.heap.objs.size := by obtain ⟨_, q, _⟩ := hit; exact Heap.lt_size q
    have hea : e ≠ a := fun z => by
      obtain ⟨o, q1, q2, _⟩ := hT0
      rw [← z, he] at q1
      have q3 := Option.some.inj q1
      subst q3
      exact absurd (Value.type.inj q2) (by decide)
    have hai : a ≠ it := fun z => by
      obtain ⟨o, q1, q2, _⟩ := hT0
      obtain ⟨o', r1, r2, _⟩ := hit
      rw [z, r1] at q1
      have q3 := Option.some.inj q1
      subst q3
      rw [q2] at r2
      exact absurd (Value.type.inj r2) (by decide)
    have hii : i < its.toArray.size := by
      rw [List.size_toArray]
      exact (List.getElem?_eq_some_iff.mp hu).1
    refine wpAny_pyNext_enum_itemD (Draws.tuple (show X.A.in1.handled = none from I.ok.hd hc) it a hai its.toArray) he ⟨hit, hT0⟩ hii hne (by simp [hne, hea]) fun v h' tk hv ho hit' hT hsz hk => ?_
    obtain rfl : u = v := by
      have z : its.toArray[i]? = some u := by simpa using hu
      exact Option.some.inj (z.symm.trans hv)
    refine ⟨_, rfl, wpAny_letOwnedTupleGo_enum (s := { s with heap := h', toks := tk + 1 }) ho fun h'' he' sb => ?_⟩
    have hT2 : h''.get? s.heap.objs.size = some { cls := .type "tuple", data := .seq #[.int i tk, u] } := (sb.2 _ (Nat.ne_of_gt hel)).trans hT
    have new : ObjOk X.prog X.w (upd H s.heap.objs.size (.tup [.int (i : Nat), x])) h'' s.heap.objs.size (.tup [.int (i : Nat), x]) :=
      ⟨by show 2 ≤ sizeLine; decide, [.int i tk, u], .cons ⟨_, rfl⟩ (.cons ru .nil), ⟨_, hT2, rfl, _, rfl⟩⟩
    have I1 : Inv X pins σ (upd H s.heap.objs.size (.tup [.int (i : Nat), x])) { s with heap := h'', toks := tk + 1 } :=
      I.turnedNew (ch := [e, it]) (fun b ob hb q => (sb.2 b (fun z => hb (by simp [z]))).trans (hk b ob (fun z => hb (by simp [z])) (fun z => hb (by simp [z])) q)) hf (Nat.le_refl _) new
    refine ⟨.ref s.heap.objs.size, _, I1, rfl, ⟨_, x, rfl, I.hok.fresh (Nat.le_refl _), rfl, fun ys hy => by rw [I.tuple_inj hy hq]; exact hx⟩, ⟨⟨u, ?_⟩, hit'.1.at fun o q => (sb.2 it (Ne.symm hne)).trans q, hne⟩, fun b hb => ?_⟩
    · have e1 : ((i + 1 : Nat) : Int) = (i : Int) + 1 := by omega
      rw [e1]; exact he'
    · have hb' : b < s.heap.objs.size := by
        have e' : b = e ∨ b = it := by simpa using hb
        rcases e' with z | z
        · rw [z]; exact hel
        · rw [z]; exact hil
      rw [upd_ne (Nat.ne_of_lt hb')]
      exact (hf b hb).1
  done := by
    intro X hP hw hK hc i pins s σ H E I hf st hg
    subst hP hw hK
    obtain ⟨⟨old, he⟩, hit, hne⟩ := st
    obtain ⟨xs, hq, hx⟩ := hg
    obtain ⟨its, rv, p, hz⟩ := I.tuple hq
    have hT0 : s.heap.IsTuple a its.toArray := p
    obtain ⟨f0, f1, f2, f3, f4, f5⟩ := hf it (by simp)
    have hl := rv.length
    have hai : a ≠ it := fun z => by
      obtain ⟨o, q1, q2, _⟩ := hT0
      obtain ⟨o', r1, r2, _⟩ := hit
      rw [z, r1] at q1
      have q3 := Option.some.inj q1
      subst q3
      rw [q2] at r2
      exact absurd (Value.type.inj r2) (by decide)
    have hn : its.toArray.size = i := by
      rw [List.size_toArray]
      omega
    refine wpAny_pyNext_enum_endD (n := i) (it := it) (fp := [it, a]) (P := fun i v => its.toArray[i]? = some v) (St := fun i h => h.IsTupleIter it a i ∧ h.IsTuple a its.toArray) ?_ he ⟨hit, hT0⟩ fun h' eb => ⟨rfl, I.turned (t' := s.toks) (fun b o hb q => eb b o hb q) f0 f1 f3 f4 f5⟩
    have D := Draws.tuple (prog := X.prog) (w := X.w) (show X.A.in1.handled = none from I.ok.hd hc) it a hai its.toArray
    rw [hn] at D
    exact D
  self := fun A i s Q E st h => let ⟨⟨_, he⟩, _⟩ := st; wpAny_pyIter_enum he h
def iEnumT (K : PySem.W.Frag) (ta : TA) : TI := fun σ H R => ta σ H fun vs H1 => ∃ a xs, vs = [.ref a] ∧ SqT K H1 a xs ∧ R (Itet K a) H1
theorem pi_enumT {X : Cx} {e : Expr} {ta : TA} {p pos tpos : Pos} {elts : List Expr} {kk : Nat} (hg : Gl X "enumerate") (hm : X.mg "enumerate" = none) (ha : PA X [e] ta) (hs : starEach [e] X.env = [(false, eval e X.env)] := by rfl) :
    PI X (.Tuple elts kk tpos) (.Call (.Name "enumerate" p) [e] [] pos) (iEnumT X.K ta) := by
  refine ⟨fun pins s σ H R I h => ?_⟩
  refine Call_ (ld_blt I hg hm boot_enumerate (PyProof.Rows.callWith_type1 (thn (ha.run pos pins s σ H _ I h) fun us s1 ⟨vs, H1, I1, r1, q1⟩ => ?_) hs rfl))
  obtain ⟨a, xs, ex, hq, q⟩ := q1
  subst ex
  cases r1 with
  | cons r rr =>
    cases rr
    cases r
    obtain ⟨its, rv, p', hz⟩ := I1.tuple hq
    refine call_enumerate_tuple (show s1.heap.IsTuple a its.toArray from p') fun h' he hit hsz hk => wpAny_pyIter_enum he ?_
    have I2 : Inv X pins σ H1 { s1 with heap := h' } := I1.kept (t' := s1.toks) hk
    refine ⟨s1.heap.objs.size + 1, [s1.heap.objs.size + 1, s1.heap.objs.size], _, _, H1, rfl, I2, turn_enumT a (s1.heap.objs.size + 1) s1.heap.objs.size, ⟨⟨.none, he⟩, hit, Nat.succ_ne_self _⟩, fun b hb => ?_, q⟩
    have e' : b = s1.heap.objs.size + 1 ∨ b = s1.heap.objs.size := by simpa using hb
    have hle : s1.heap.objs.size ≤ b := by
      rcases e' with z | z
      · rw [z]; exact Nat.le_add_right _ _
      · rw [z]; exact Nat.le_refl _
    exact I1.fpOk hle (I1.hok.fresh hle)
/-- the turns over a tuple that stands -/
theorem for_enumT {K : PySem.W.Frag} {a : Addr} {xs : List V} {g : TG} {tb : TS} {D : Ends} {σ : St} {H : Hp} (Pv : Nat → St → Hp → Prop) (h0 : Pv 0 σ H) (hl : ∀ i σ H, i ≤ xs.length → Pv i σ H → SqT K H a xs)
    (hs : ∀ i x σ H T, xs[i]? = some x → Pv i σ H → H T = none → g (.ref T) σ (upd H T (.tup [.int (i : Nat), x])) fun σ2 H2 => tb { D with nx := Pv (i + 1), ct := Pv (i + 1), bk := D.nx } σ2 H2) (hd : ∀ σ H, Pv xs.length σ H → D.nx σ H) :
    ∃ W : Nat → Nat → St → Hp → Prop, (∃ m, W 0 m σ H) ∧ ∀ i m σ H, W i m σ H →
      ((Itet K a).stop i H ∧ D.nx σ H) ∨ ((Itet K a).go i H ∧ ∃ N : St → Hp → Prop, (∀ σ' H', N σ' H' → ∃ m', m' < m ∧ W (i + 1) m' σ' H') ∧ ∀ x H', (Itet K a).yld i H x H' → g x σ H' fun σ2 H2 => tb { D with nx := N, ct := N, bk := D.nx } σ2 H2) := by
  refine ⟨fun i m σ H => m = xs.length - i ∧ i ≤ xs.length ∧ Pv i σ H, ⟨xs.length, by simp, Nat.zero_le _, h0⟩, ?_⟩
  rintro i m σ H ⟨rfl, hi, p⟩
  have q := hl i σ H hi p
  by_cases hlt : i < xs.length
  · refine .inr ⟨⟨xs, xs[i], q, by simp [hlt]⟩, Pv (i + 1), fun σ' H' p' => ⟨xs.length - (i + 1), by omega, rfl, hlt, p'⟩, fun x H' y => ?_⟩
    obtain ⟨T, z, e1, e2, e3, e4⟩ := y
    subst e1 e3
    exact hs i z σ H T (e4 xs q) p e2
  · have e : i = xs.length := by omega
    subst e
    exact .inl ⟨⟨xs, q, rfl⟩, hd σ H p⟩
theorem for_enumL {K : PySem.W.Frag} {a : Addr} {xs : List V} {g : TG} {tb : TS} {D : Ends} {σ : St} {H : Hp} (Pv : Nat → St → Hp → Prop) (h0 : Pv 0 σ H) (hl : ∀ i σ H, i ≤ xs.length → Pv i σ H → SqL K H a xs)
    (hs : ∀ i x σ H T, xs[i]? = some x → Pv i σ H → H T = none → g (.ref T) σ (upd H T (.tup [.int (i : Nat), x])) fun σ2 H2 => tb { D with nx := Pv (i + 1), ct := Pv (i + 1), bk := D.nx } σ2 H2) (hd : ∀ σ H, Pv xs.length σ H → D.nx σ H) :
    ∃ W : Nat → Nat → St → Hp → Prop, (∃ m, W 0 m σ H) ∧ ∀ i m σ H, W i m σ H →
      ((Ite K a).stop i H ∧ D.nx σ H) ∨ ((Ite K a).go i H ∧ ∃ N : St → Hp → Prop, (∀ σ' H', N σ' H' → ∃ m', m' < m ∧ W (i + 1) m' σ' H') ∧ ∀ x H', (Ite K a).yld i H x H' → g x σ H' fun σ2 H2 => tb { D with nx := N, ct := N, bk := D.nx } σ2 H2) := by
  refine ⟨fun i m σ H => m = xs.length - i ∧ i ≤ xs.length ∧ Pv i σ H, ⟨xs.length, by simp, Nat.zero_le _, h0⟩, ?_⟩
  rintro i m σ H ⟨rfl, hi, p⟩
  have q := hl i σ H hi p
  by_cases hlt : i < xs.length
  · refine .inr ⟨⟨xs, xs[i], q, by simp [hlt]⟩, Pv (i + 1), fun σ' H' p' => ⟨xs.length - (i + 1), by omega, rfl, hlt, p'⟩, fun x H' y => ?_⟩
    obtain ⟨T, z, e1, e2, e3, e4⟩ := y
    subst e1 e3
    exact hs i z σ H T (e4 xs q) p e2
  · have e : i = xs.length := by omega
    subst e
    exact .inl ⟨⟨xs, q, Nat.le_refl _⟩, hd σ H p⟩
end L2

set_option maxRecDepth 100000
set_option maxHeartbeats 4000000
namespace Kw
open PySem PySem.Spec PyProof.Rows L2
/-- the fields that such an __init__ leaves, the last first -/
def errF (ps : List Str) (vs : List V) : List (Str × V) := (ps.zip vs).reverse
/-- an error's __init__ that keeps all its parameters, one or more, in their order -/
def spR (C : Addr) (ps : List Str) : Sp := fun vs H Q _ => ∃ (a : Addr) (xs : List V), vs = .ref a :: xs ∧ xs.length = ps.length ∧ H a = some (exo a C none) ∧
  ∀ d H', H d = none → d ≠ a → H' a = some (exo a C (some d)) → H' d = some (exd d (errF ps xs)) → (∀ b o, b ≠ a → H b = some o → H' b = some o) → Q .non H'
/-- what a raise of it asks, once its arguments are read -/
theorem raise_q {C : Addr} {ps : List Str} {H1 : Hp} {vs : List V} {Q : XK} (hl : vs.length = ps.length) (hz : ps.length ≤ 1000) (q : ∀ d H', Same H1 H' → H1 d = none → H' d = some (.xd (errF ps vs)) → Q (.ref C) (some d) H') :
    vs.length ≤ 1000 ∧ ∀ a, H1 a = none → spR C ps (.ref a :: (vs ++ [])) (upd H1 a (exo a C none))
      (fun v H2 => v = .non ∧ ∃ (d : Addr) (fs : List (Str × V)), H2 a = some (exo a C (some d)) ∧ H2 d = some (exd d fs) ∧ H1 d = none ∧ Q (.ref C) (some d) (upd (del H2 a) d (.xd fs))) (fun _ _ _ => False) := by
  refine ⟨by omega, fun a ha => ⟨a, vs, by rw [List.append_nil], hl, upd_same, fun d H' hd hda e1 e2 s => ?_⟩⟩
  rw [upd_ne hda] at hd
  refine ⟨rfl, d, _, e1, e2, hd, q d _ (fun b o e => ?_) hd upd_same⟩
  have hba : b ≠ a := ne_of_none e ha
  rw [upd_ne (ne_of_none e hd), del_ne hba]
  exact s b o hba (by rw [upd_ne hba]; exact e)
/-- the facts of an own error class -/
structure ErrX (K : PySem.W.Frag) (mg : Str → Option Value) (x : Str) (ps : List Str) (C fI : Addr) : Prop where
  oex : OexC K C
  ini : PySem.W.findIn K (.ref C) "__init__" = some (some (.ref fI))
  inT : PySem.W.typeIn K (.ref fI) = some (.type "function")
  no : ∀ p ∈ ps, PySem.W.findIn K (.ref C) p = some none
  mg : mg x = some (.ref C)
theorem upB {H : Hp} {a b : Addr} {o u : HO} (h : b ≠ a) (e : H b = some o) : upd H a u b = some o := by rw [upd_ne h]; exact e
end Kw

set_option maxRecDepth 100000
set_option maxHeartbeats 4000000
namespace K59
open PySem PySem.Spec PyProof.Rows L2 Kw
def inClass (st : Stmt) (j : Nat) : Stmt := match st with
  | .ClassDef (body := b) .. => b.getD j (.Pass ⟨0, 0, 0, 0⟩)
  | _ => .Pass ⟨0, 0, 0, 0⟩
abbrev FnM (K : PySem.W.Frag) (x qual : Str) (st : Stmt) (f : Addr) (fd : FuncData) : Prop := FunD K x qual (defArgs st) (defBody st) (defScope st) [] [] f fd
section
variable {P : Program} {w : World} {K : PySem.W.Frag} {mg : Str → Option Value} {base : Heap} {f C : Addr} {fd : FuncData}
theorem sc_badWorld : FnScope ["self", "index", "what"] ["self", "index", "what"] (defScope (inClass (top 3) 0)) := ⟨rfl, rfl, rfl, by decide +kernel, rfl, by decide +kernel, by decide +kernel⟩
theorem ok_badWorld (F : FnM K "__init__" "BadWorld.__init__" (inClass (top 3) 0) f fd) (T : ErrX K mg "BadWorld" ["index", "what"] C f) : FnOk P w K mg base CX0 1 f fd ["self", "index", "what"] (spR C ["index", "what"]) ∧ Binds K fd ["self", "index", "what"] [] := by
  refine ⟨F.ok sc_badWorld (fun vs H Q E h => ?_) (fun cdv A outer s H vs Q E hr h => ?_), F.bindsN fun _ _ _ _ _ _ us hl => match us, hl with | [_, _, _], _ => rfl⟩
  · obtain ⟨a, xs, rfl, hl, _⟩ := h
    exact congrArg Nat.succ hl
  · obtain ⟨a, xs, rfl, hl, ha, k⟩ := h
    match xs, hl with
    | [x1, x2], _ =>
      refine ⟨_, PSs.nox (pss_cons (ps_ost (pv 0) (pv 1)) (pss_one (ps_ost (pv 0) (pv 2)))), ?_⟩
      refine ⟨_, rfl, _, rfl, a, C, rfl, T.oex, T.no _ (List.mem_of_getElem? (i := 0) rfl), .inl ⟨ha, fun dx hd ne => ?_⟩⟩
      have A1 := @upd_same (upd H dx (exd dx [("index", x1)])) a (exo a C (some dx))
      have D1 : upd (upd H dx (exd dx [("index", x1)])) a (exo a C (some dx)) dx = some (exd dx [("index", x1)]) := upB ne upd_same
      have B1 : ∀ b o, b ≠ a → H b = some o → upd (upd H dx (exd dx [("index", x1)])) a (exo a C (some dx)) b = some o := fun b o hb e => upB hb (upB (ne_of_none e hd) e)
      generalize hG1 : upd (upd H dx (exd dx [("index", x1)])) a (exo a C (some dx)) = G1 at A1 D1 B1 ⊢
      refine ⟨_, rfl, _, rfl, a, C, rfl, T.oex, T.no _ (List.mem_of_getElem? (i := 1) rfl), .inr ⟨dx, [("index", x1)], A1, D1, (by show 1 ≤ 900; decide), ?_⟩⟩
      exact k dx _ hd ne (upB ne.symm A1) upd_same fun b o hb e => upB (ne_of_none e hd) (B1 b o hb e)
end
end K59

set_option maxRecDepth 100000
set_option maxHeartbeats 4000000
namespace Kw
open PySem PySem.Spec PyProof.Rows L2
/-- one rule or another, for a place where either kind of thing may stand -/
theorem pg_or {X : Cx} {tg : Expr} {t1 t2 : TG} (h1 : PG X tg t1) (h2 : PG X tg t2) : PG X tg (fun v σ H Q => t1 v σ H Q ∨ t2 v σ H Q) :=
  ⟨fun pins s σ H v u Q I r h => h.elim (h1.run pins s σ H v u Q I r) (h2.run pins s σ H v u Q I r)⟩
theorem pi_or {X : Cx} {tg e : Expr} {w1 w2 : TI} (h1 : PI X tg e w1) (h2 : PI X tg e w2) : PI X tg e (fun σ H R => w1 σ H R ∨ w2 σ H R) :=
  ⟨fun pins s σ H R I h => h.elim (h1.run pins s σ H R I) (h2.run pins s σ H R I)⟩
theorem call_or {X : Cx} {f : Value} {r1 r2 : List V → Hp → VK → Prop} (h1 : CallR X f r1) (h2 : CallR X f r2) : CallR X f (fun vs H Q => r1 vs H Q ∨ r2 vs H Q) :=
  fun pins s σ H xs us Q I r h => h.elim (h1 pins s σ H xs us Q I r) (h2 pins s σ H xs us Q I r)
theorem pe_or {X : Cx} {e : Expr} {t1 t2 : TE} (h1 : PE X e t1) (h2 : PE X e t2) : PE X e (fun σ H Q => t1 σ H Q ∨ t2 σ H Q) :=
  ⟨fun pins s σ H Q I h => h.elim (h1.run pins s σ H Q I) (h2.run pins s σ H Q I)⟩
/-- sorted(t), t a list or a tuple of whole numbers -/
def rSortSI (K : PySem.W.Frag) : List V → Hp → VK → Prop := fun xs H Q => ∃ (a : Addr) (ks : List Int), xs = [.ref a] ∧ (SqL K H a (ks.map V.int) ∨ SqT K H a (ks.map V.int)) ∧
  ∀ (ys : List Int) (p : Addr), ys.Perm ks → ys.Pairwise (· ≤ ·) → H p = none → Q (.ref p) (upd H p (.lst (ys.map V.int)))
theorem call_sortedSI {X : Cx} : CallR X (.builtin "sorted") (rSortSI X.K) := by
  intro pins s σ H xs us Q I r q
  obtain ⟨a, ks, ex, hd, q⟩ := q
  subst ex
  rcases hd with hd | hd
  · exact cr_sortedI pins s σ H _ us Q I r ⟨a, ks, rfl, hd, q⟩
  · obtain ⟨u, eu, rx⟩ := vals1 r
    subst eu
    obtain rfl : u = Value.ref a := rx
    obtain ⟨its, rv, p, hz⟩ := I.tuple hd
    have hI : IntsAre its ks := rv.ints
    obtain ⟨o, ho, hc, n, hdt⟩ : s.heap.IsTuple a its.toArray := p
    have hzi : its.toArray.size ≤ sizeLine := by
      rw [List.size_toArray, ← rv.length]
      exact hz
    refine Calls.call_function_entry kind_sorted plain_sorted entry_sorted (args_sorted1 _) ?_
    unfold Builtin.«sorted»
    refine wpAny_bind (m := checkCount "sorted" 1 1 _) (wpAny_pure (wpAny_bind ?_))
    refine wpAny_collect_seq a (T := "tuple") (.inr rfl) ho hc hdt (hsz := hzi) fun h' hk => ?_
    have ea : its.toArray.toList = its := rfl
    rw [ea]
    have I1 : Inv X pins σ H { s with heap := h' } := I.kept (t' := s.toks) hk
    have hZ : its.length ≤ sizeLine := by
      rw [← rv.length]
      exact hz
    refine wpAny_bind (wpAny_newList ?_ hZ)
    have hoL : (h'.push (seqObj "list" its.toArray 0)).get? h'.objs.size = some (seqObj "list" its.toArray 0) := Heap.get?_push_size _ rfl
    show wpAny _ _ _ _ _ { s with heap := h'.push (seqObj "list" its.toArray 0) }
    refine wpAny_bind (wpAny_holding (wpAny_call_entry slot_list_sort ⟨_, hoL, rfl⟩ entry_list_sort ?_ (args_list_sort _)))
    refine SrtO.list_sort_ord SrtO.swo_int hoL hZ (fun h2 => SrtO.ints_sortable hI h2) fun out g1 g2 => ⟨_, rfl, ?_⟩
    obtain ⟨k1, k2, k3⟩ := SrtO.ints_out hI g1 g2
    obtain ⟨e', he'⟩ := sortedHeap_at (vs := its) (out := out.toArray) hoL
    have hlen : ((out.map SrtO.iv).map V.int).length ≤ sizeLine := by
      rw [List.length_map, k2.length_eq, ← List.length_map (f := V.int)]
      exact hz
    refine wpAny_pure ⟨_, rfl, .ref h'.objs.size, upd H h'.objs.size (.lst ((out.map SrtO.iv).map V.int)), I1.laid (t' := s.toks) (fun b u e => ?_) (Nat.le_refl _)
      (show ObjOk X.prog X.w _ _ _ (.lst ((out.map SrtO.iv).map V.int)) from ⟨hlen, out, e', vals_of_ints k1, he'⟩), rfl, q _ _ k2 k3 (I1.hok.fresh (Nat.le_refl _))⟩
    have hb : b < h'.objs.size := Heap.lt_size e
    rw [sortedHeap_old (Nat.ne_of_lt hb) (by rw [size_push']; exact Nat.lt_succ_of_lt hb)]
    exact Heap.get?_push_of_some _ e
end Kw

set_option maxRecDepth 100000
set_option maxHeartbeats 4000000
namespace K59
open PySem PySem.Spec PyProof.Rows L2 Kw
/-- bases, own fields, own methods, as they were given -/
abbrev Ent := List Nat × Nat × List Nat
def sortN (l : List Nat) : List Nat := (List.range 6).filter fun m => l.contains m
/-- a right entry of class c -/
def EntryOk (H : Hp) (e : V) (c : Nat) (d : Ent) : Prop := ∃ a ab am, e = .ref a ∧ SeqAt H a [.ref ab, natV d.2.1, .ref am] ∧ SeqAt H ab (d.1.map natV) ∧ SeqAt H am (d.2.2.map natV) ∧
  (d.1.Nodup ∧ d.1.length ≤ 12 ∧ ∀ b ∈ d.1, b < c) ∧ d.2.1 ≤ 3 ∧ d.2.2.Nodup ∧ d.2.2.length ≤ 3 ∧ ∀ m ∈ d.2.2, m < 6
theorem EntryOk.same {H H' : Hp} {e : V} {c : Nat} {d : Ent} (h : EntryOk H e c d) (s : Same H H') : EntryOk H' e c d := by
  obtain ⟨a, ab, am, h1, h2, h3, h4, h5⟩ := h
  exact ⟨a, ab, am, h1, h2.same s, h3.same s, h4.same s, h5⟩
theorem EntryIs.same {H H' : Hp} {e : V} {c : Int} {o : Option Str} (h : EntryIs H e c o) (s : Same H H') : EntryIs H' e c o := by
  rcases h with ⟨t, h1, h2⟩ | ⟨a, xs, h1, h2, h3⟩ | ⟨a, b, g, m, rb, nb, tg, rm, nm, h1, h2, h3, h4, h5, h6⟩
  · exact .inl ⟨t, h1.same s, h2⟩
  · exact .inr (.inl ⟨a, xs, h1, h2.same s, h3⟩)
  · exact .inr (.inr ⟨a, b, g, m, rb, nb, tg, rm, nm, h1, h2.same s, h3.same s, h4.same s, h5.same s, h6⟩)
theorem intOf_nats (l : List Nat) : (l.map natV).map intOf = l.map fun (n : Nat) => (n : Int) := by
  rw [List.map_map]
  rfl
theorem nodup_cast {l : List Nat} (h : l.Nodup) : (l.map fun (n : Nat) => (n : Int)).Nodup := by
  refine List.pairwise_map.mpr (h.imp fun z => ?_)
  intro e
  exact z (by omega)
theorem unlike_nats {l : List Nat} {m : Nat} (hn : l.Nodup) (hb : ∀ b ∈ l, b < m) : unlikeB (m : Int) (l.map natV) = true := by
  unfold unlikeB
  rw [intOf_nats, decide_eq_true (nodup_cast hn), Bool.and_true, List.all_eq_true]
  intro x hx
  obtain ⟨b, h1, rfl⟩ := List.mem_map.mp hx
  have := hb b h1
  show wholeB (.int 0) (.int ((m : Int) - 1)) (.int (b : Int)) = true
  unfold wholeB inLo inHi
  simp only [Bool.and_eq_true, decide_eq_true_eq]
  omega
theorem nats_ty {H : Hp} (l : List Nat) : ∀ y ∈ l.map natV, ∃ t, Ty0 H y t := fun y hy => by
  obtain ⟨b, h1, rfl⟩ := List.mem_map.mp hy
  exact ⟨_, .int _⟩
theorem EntryOk.is {H : Hp} {e : V} {c : Nat} {d : Ent} (h : EntryOk H e c d) : EntryIs H e (c : Int) none := by
  obtain ⟨a, ab, am, rfl, h2, h3, h4, ⟨h5, h6, h7⟩, h8, h9, h10, h11⟩ := h
  refine .inr (.inr ⟨a, .ref ab, natV d.2.1, .ref am, true, d.1.length, _, true, d.2.2.length, rfl, h2, .inr ⟨ab, _, rfl, h3, by rw [List.length_map]; omega, nats_ty _, (unlike_nats h5 h7).symm, by rw [List.length_map]⟩, .int _, .inr ⟨am, _, rfl, h4, by rw [List.length_map]; omega, nats_ty _, (unlike_nats (m := 6) h9 h11).symm, by rw [List.length_map]⟩, ?_⟩)
  have hw : wholeB (.int 0) (.int 3) (natV d.2.1) = true := by
    show wholeB (.int 0) (.int 3) (.int (d.2.1 : Int)) = true
    unfold wholeB inLo inHi
    simp only [Bool.and_eq_true, decide_eq_true_eq]
    omega
  unfold entryWord
  rw [if_neg (by decide), hw, if_neg (by decide), if_neg (by decide), if_neg (by omega)]
theorem sortN_one {l : List Nat} (hn : l.Nodup) (hb : ∀ m ∈ l, m < 6) {ys : List Int} (p : ys.Perm (l.map fun (n : Nat) => (n : Int))) (hs : ys.Pairwise (· ≤ ·)) : ys.map V.int = (sortN l).map natV := by
  have up : (sortN l).Pairwise (· < ·) := List.Pairwise.filter _ List.pairwise_lt_range
  refine sorted_one p hs hn (up_nodup up) (fun x => ?_) up
  unfold sortN
  rw [List.mem_filter, List.mem_range]
  constructor
  · intro h
    exact ⟨hb x h, by simpa using h⟩
  · rintro ⟨_, h⟩
    simpa using h
/-- an entry as a world keeps it -/
def EntAt (H : Hp) (t : Addr) (d : Ent) : Prop := ∃ tb tm, H t = some (.tup [.ref tb, natV d.2.1, .ref tm]) ∧ H tb = some (.tup (d.1.map natV)) ∧ H tm = some (.tup ((sortN d.2.2).map natV))
def EntsAt (H : Hp) : List V → List Ent → Prop := Paired fun v d => ∃ t, v = .ref t ∧ EntAt H t d
def TupK (H H' : Hp) : Prop := ∀ b xs, H b = some (.tup xs) → H' b = some (.tup xs)
theorem EntAt.mono {H H' : Hp} {t : Addr} {d : Ent} (h : EntAt H t d) (k : TupK H H') : EntAt H' t d := by
  obtain ⟨tb, tm, h1, h2, h3⟩ := h
  exact ⟨tb, tm, k _ _ h1, k _ _ h2, k _ _ h3⟩
theorem EntsAt.mono {H H' : Hp} (k : TupK H H') : ∀ {vs : List V} {ds : List Ent}, EntsAt H vs ds → EntsAt H' vs ds
  | [], [], _ => .nil
  | _ :: _, _ :: _, .cons ⟨t, e, h⟩ r => .cons ⟨t, e, h.mono k⟩ (EntsAt.mono k r)
theorem EntsAt.len {H : Hp} {vs : List V} {ds : List Ent} (h : EntsAt H vs ds) : vs.length = ds.length := Paired.length h
theorem EntsAt.get {H : Hp} : ∀ {vs : List V} {ds : List Ent} {i : Nat} {d : Ent}, EntsAt H vs ds → ds[i]? = some d → ∃ t, vs[i]? = some (.ref t) ∧ EntAt H t d
  | [], [], _, _, _, h => by simp at h
  | _ :: _, _ :: _, 0, _, .cons ⟨t, e1, h⟩ _, e => by
    obtain rfl := Option.some.inj e
    exact ⟨t, by rw [e1]; rfl, h⟩
  | _ :: _, _ :: _, i + 1, _, .cons _ r, e => EntsAt.get (i := i) r e
theorem EntsAt.app {H : Hp} : ∀ {vs us : List V} {ls ms : List Ent}, EntsAt H vs ls → EntsAt H us ms → EntsAt H (vs ++ us) (ls ++ ms)
  | [], _, [], _, _, h => h
  | _ :: _, _, _ :: _, _, .cons h r, s => .cons h (EntsAt.app r s)
theorem Same.tupK {H H' : Hp} (s : Same H H') : TupK H H' := fun b xs e => s b _ e
/-- all but the object at p stays -/
def Oth (p : Addr) (H H' : Hp) : Prop := ∀ b o, b ≠ p → H b = some o → H' b = some o
theorem Oth.trans {p : Addr} {H H1 H2 : Hp} (a : Oth p H H1) (b : Oth p H1 H2) : Oth p H H2 := fun c o n e => b c o n (a c o n e)
theorem Oth.of {p : Addr} {H H1 : Hp} (s : Same H H1) : Oth p H H1 := fun c o _ e => s c o e
theorem Oth.upd {p : Addr} {H H1 : Hp} {o : HO} (s : Oth p H H1) : Oth p H (upd H1 p o) := fun c u n e => upB n (s c u n e)
theorem Oth.tupK {p : Addr} {H H' : Hp} {C dx : Addr} {fs : List (Str × V)} (s : Oth p H H') (h : H p = some (.ins C dx fs)) : TupK H H' := fun b xs e => s b _ (fun z => by
  rw [z, h] at e
  cases e) e
/-- a world as an object -/
def WorldFs (ac ab ao am ae ah : Addr) : List (Str × V) := [("classes", .ref ac), ("bases", .ref ab), ("owns", .ref ao), ("methods", .ref am), ("elders", .ref ae), ("heirs", .ref ah)]
def WorldAt (H : Hp) (p C : Addr) (ds : List Ent) : Prop := ∃ dx ac ab ao am ae ah cs bs ms es hs, H p = some (.ins C dx (WorldFs ac ab ao am ae ah)) ∧ H ac = some (.tup cs) ∧ EntsAt H cs ds ∧
  H ab = some (.tup bs) ∧ TupsAt H bs (ds.map (·.1)) ∧ H ao = some (.tup ((ds.map (·.2.1)).map natV)) ∧ H am = some (.tup ms) ∧ TupsAt H ms (ds.map fun d => sortN d.2.2) ∧
  H ae = some (.tup es) ∧ TupsAt H es (elders (ds.map (·.1))) ∧ H ah = some (.tup hs) ∧ TupsAt H hs (heirs (elders (ds.map (·.1))))
end K59

set_option maxRecDepth 100000
set_option maxHeartbeats 8000000
namespace K59
open PySem PySem.Spec PyProof.Rows L2 Kw
structure ClsWorld (K : PySem.W.Frag) (mg : Str → Option Value) (C : Addr) : Prop where
  cl : Cls K C
  no : ∀ f ∈ (["classes", "bases", "owns", "methods", "elders", "heirs"] : List Str), NoAttr K C f
section
variable {P : Program} {w : World} {K : PySem.W.Frag} {mg : Str → Option Value} {base : Heap} {f fS fW fU fE fL fH fB Cb C : Addr} {fd fdS fdW fdU fdE fdL fdH fdB : FuncData}
def spWorld (C Cb : Addr) : Sp := fun vs H Q E => ∃ (p dx : Addr) (x : V), vs = [.ref p, x] ∧ H p = some (.ins C dx []) ∧
  ((((∃ t, Ty0 H x t ∧ seqT t = false) ∨ ∃ a es, x = .ref a ∧ SeqAt H a es ∧ (es.length = 0 ∨ 12 < es.length)) ∧ ∀ d H', Same H H' → H' d = some (.xd (errF ["index", "what"] [.int 0, .str "many"])) → E (.ref Cb) (some d) H') ∨
   ∃ a es ds, x = .ref a ∧ SeqAt H a es ∧ es.length ≠ 0 ∧ es.length ≤ 12 ∧ ds.length ≤ es.length ∧ (∀ (i : Nat) (d : Ent), ds[i]? = some d → ∃ e, es[i]? = some e ∧ EntryOk H e i d) ∧
     ((∃ e word, es[ds.length]? = some e ∧ EntryIs H e (ds.length : Int) (some word) ∧ ∀ d H', Same H H' → H' d = some (.xd (errF ["index", "what"] [.int (ds.length : Int), .str word])) → E (.ref Cb) (some d) H') ∨
      (ds.length = es.length ∧ ∀ H', Oth p H H' → WorldAt H' p C ds → Q .non H')))
/-- enumerate over a list or a tuple that stands -/
theorem for_enumS {a : Addr} {xs : List V} {g : TG} {tb : TS} {D : Ends} {σ : L2.St} {H H0 : Hp} {j : Nat} (hj : σ[j]? = some (some (.ref a))) (hA : SeqAt H0 a xs) (s0 : Same H0 H) (Pv : Nat → L2.St → Hp → Prop) (h0 : Pv 0 σ H) (keep : ∀ i σ' H', Pv i σ' H' → Same H0 H')
    (hs : ∀ i x σ H T, xs[i]? = some x → Pv i σ H → H T = none → g (.ref T) σ (upd H T (.tup [.int (i : Nat), x])) fun σ2 H2 => tb { D with nx := Pv (i + 1), ct := Pv (i + 1), bk := D.nx } σ2 H2) (hd : ∀ σ H, Pv xs.length σ H → D.nx σ H) :
    tFor (fun σ H R => iEnum K (tCons (tVar j) tNil) σ H R ∨ iEnumT K (tCons (tVar j) tNil) σ H R) g tb D σ H := by
  rcases hA with hA | hA
  · exact .inl ⟨_, hj, a, xs, rfl, SqL.of (s0 _ _ hA), for_enumL Pv h0 (fun i σ H' _ h => SqL.of (keep i σ H' h _ _ hA)) hs hd⟩
  · exact .inr ⟨_, hj, a, xs, rfl, SqT.of (s0 _ _ hA), for_enumT Pv h0 (fun i σ H' _ h => SqT.of (keep i σ H' h _ _ hA)) hs hd⟩
theorem tup_q {H : Hp} {a : Addr} {xs : List V} {Q : VK} (hA : SeqAt H a xs) (q : ∀ p H', Same H H' → H' p = some (.tup xs) → Q (.ref p) H') :
    rTupOf K [V.ref a] H Q := by
  refine ⟨a, xs, rfl, ?_⟩
  rcases hA with hA | hA
  · exact .inl ⟨SqL.of hA, fun l hl => q l _ (same_new hl) upd_same⟩
  · exact .inr ⟨SqT.of hA, q a H (Same.refl H) hA⟩
/-- a column of the entries, as a new list -/
theorem col_q {x0 x1 x3 x4 x5 x6 x7 x8 : Option V} {R : Addr} {us : List V} {ds : List Ent} {H : Hp} {k : Int} {Q : VK} (ColP : Hp → V → Ent → Prop) (hmono : ∀ H H' v d, TupK H H' → ColP H v d → ColP H' v d)
    (hcol : ∀ H t d, EntAt H t d → ∃ xs v, H t = some (.tup xs) ∧ atI xs k = some v ∧ ColP H v d) (hR : H R = some (.lst us)) (hE : EntsAt H us ds) (h12 : ds.length ≤ 12)
    (q : ∀ D H' vs, Same H H' → H' D = some (.lst vs) → Paired (ColP H') vs ds → Q (.ref D) H') :
    tLc (iList K (tVar 2)) (gName 4) tYes (tOp (rIxT K) (tVar 4) (tC (.int k))) [4] [x0, x1, some (.ref R), x3, x4, x5, x6, x7, x8] H Q := by
  have hmonoP : ∀ {H H' : Hp}, TupK H H' → ∀ {vs : List V} {ds : List Ent}, Paired (ColP H) vs ds → Paired (ColP H') vs ds := fun kk => by
    intro vs ds h
    induction h with
    | nil => exact .nil
    | cons z _ ih => exact .cons (hmono _ _ _ _ kk z) ih
  have app1 : ∀ {H : Hp} {vs : List V} {ds : List Ent} {v : V} {d : Ent}, Paired (ColP H) vs ds → ColP H v d → Paired (ColP H) (vs ++ [v]) (ds ++ [d]) := fun h z => by
    induction h with
    | nil => exact .cons z .nil
    | cons y _ ih => exact .cons y ih
  refine ⟨_, rfl, R, rfl, ⟨_, SqL.of hR⟩, fun D hD => lc_list (K := K) (a := R) (xs := us) (fun i H2 => Same H H2 ∧ ∃ vs, H2 D = some (.lst vs) ∧ Paired (ColP H2) vs (ds.take i)) ⟨same_new hD, [], upd_same, .nil⟩ (fun i H2 _ h => SqL.of (h.1 _ _ hR)) ?_ ?_⟩
  · rintro i y H2 hi ⟨s2, vs, hDv, hP⟩
    have hil : i < ds.length := by
      rw [← hE.len]
      exact (List.getElem?_eq_some_iff.mp hi).1
    obtain ⟨d, hd⟩ : ∃ d, ds[i]? = some d := ⟨_, List.getElem?_eq_getElem hil⟩
    obtain ⟨t, et, ht⟩ := hE.get hd
    obtain rfl : V.ref t = y := Option.some.inj (et.symm.trans hi)
    obtain ⟨xs, v, h1, h2, h3⟩ := hcol H2 t d (ht.mono (Same.tupK s2))
    have hvl : vs.length = i := by
      rw [Paired.length hP, List.length_take]
      omega
    have kk : TupK H2 (upd H2 D (.lst (vs ++ [v]))) := tups_upd hDv fun xs z => by cases z
    refine ⟨rfl, _, rfl, t, xs, k, v, rfl, rfl, SqT.of h1, h2, vs, hDv, by (rw [hvl]; show i < 2 ^ 24; omega), same_upd s2 hD, vs ++ [v], upd_same, ?_⟩
    rw [List.take_add_one, hd, Option.toList_some]
    exact app1 (hmonoP kk hP) (hmono _ _ _ _ kk h3)
  · rintro H2 ⟨s2, vs, hDv, hP⟩
    rw [hE.len, List.take_length] at hP
    exact q D H2 vs s2 hDv hP
def ColB (H : Hp) (v : V) (d : Ent) : Prop := ∃ t, v = .ref t ∧ H t = some (.tup (d.1.map natV))
def ColO (_ : Hp) (v : V) (d : Ent) : Prop := v = natV d.2.1
def ColM (H : Hp) (v : V) (d : Ent) : Prop := ∃ t, v = .ref t ∧ H t = some (.tup ((sortN d.2.2).map natV))
theorem colB_tups {H : Hp} {vs : List V} {ds : List Ent} (h : Paired (ColB H) vs ds) : TupsAt H vs (ds.map (·.1)) := by
  induction h with
  | nil => exact .nil
  | cons z _ ih => exact .cons z ih
theorem colM_tups {H : Hp} {vs : List V} {ds : List Ent} (h : Paired (ColM H) vs ds) : TupsAt H vs (ds.map fun d => sortN d.2.2) := by
  induction h with
  | nil => exact .nil
  | cons z _ ih => exact .cons z ih
theorem colO_nats {H : Hp} {vs : List V} {ds : List Ent} (h : Paired (ColO H) vs ds) : vs = (ds.map (·.2.1)).map natV := by
  induction h with
  | nil => rfl
  | cons z _ ih => rw [z, ih]; rfl
/-- a reading kept as it is said -/
structure Box (p : Prop) : Prop where
  h : p
def tBox (t : TE) : TE := fun σ H Q => Box (t σ H Q)
theorem pe_box {X : Cx} {e : Expr} {t : TE} (h : PE X e t) : PE X e (tBox t) := ⟨fun pins s σ H Q I k => h.run pins s σ H Q I k.h⟩
theorem sc_world : FnScope ["self", "classes", "entries", "c", "entry", "what", "bases", "fields", "methods"] ["self", "classes"] (defScope (inClass (top 18) 0)) := ⟨rfl, rfl, rfl, by decide +kernel, rfl, by decide +kernel, by decide +kernel⟩
theorem ok_world (F : FnM K "__init__" "World.__init__" (inClass (top 18) 0) f fd) (B : Fr mg) (Z : Cst mg) (TC : ClsWorld K mg C) (FS : FnP K "is_sequence" 8 fS fdS) (mS : mg "is_sequence" = some (.ref fS)) (FW : FnDf K "is_whole" 9 [.non, .non] fW fdW) (mW : mg "is_whole" = some (.ref fW))
    (FU : FnP K "is_unlike_row" 10 fU fdU) (mU : mg "is_unlike_row" = some (.ref fU)) (FE : FnP K "entry_fault" 19 fE fdE) (mE : mg "entry_fault" = some (.ref fE)) (FL : FnP K "elder_rows" 20 fL fdL) (mL : mg "elder_rows" = some (.ref fL))
    (FH : FnP K "heir_rows" 21 fH fdH) (mH : mg "heir_rows" = some (.ref fH)) (FB : FnM K "__init__" "BadWorld.__init__" (inClass (top 3) 0) fB fdB) (TB : ErrX K mg "BadWorld" ["index", "what"] Cb fB) :
    FnOk P w K mg base (L2.CX P w) 4 f fd ["self", "classes"] (spWorld C Cb) := by
  have GS : FnOk P w K mg base CX0 1 fS fdS ["thing"] spIsSeq := ok_isSeq FS B
  have GE : FnOk P w K mg base CX0 3 fE fdE ["entry", "c"] spEntry := ok_entry FE B Z FS mS FW mW FU mU
  have GL : FnOk P w K mg base CX0 1 fL fdL ["bases"] spElders := ok_elders FL B
  have GH : FnOk P w K mg base CX0 1 fH fdH ["elders"] spHeirs := ok_heirs FH B
  obtain ⟨GB, bB⟩ : FnOk P w K mg base CX0 1 fB fdB ["self", "index", "what"] (spR Cb ["index", "what"]) ∧ Binds K fdB ["self", "index", "what"] [] := ok_badWorld FB TB
  have bS : L2.Binds K fdS ["thing"] [] := FS.bindsN fun _ _ _ _ _ _ us hl => match us, hl with | [_], _ => rfl
  have bE : L2.Binds K fdE ["entry", "c"] [] := FE.bindsN fun _ _ _ _ _ _ us hl => match us, hl with | [_, _], _ => rfl
  have bL : L2.Binds K fdL ["bases"] [] := FL.bindsN fun _ _ _ _ _ _ us hl => match us, hl with | [_], _ => rfl
  have bH : L2.Binds K fdH ["elders"] [] := FH.bindsN fun _ _ _ _ _ _ us hl => match us, hl with | [_], _ => rfl
  obtain ⟨tc, zc⟩ := Z.mc
  refine F.ok sc_world (fun vs H Q E h => ?_) (fun cdv A outer s H vs Q E hr h => ?_)
  · obtain ⟨p, dx, x, rfl, _⟩ := h
    rfl
  · obtain ⟨p, dx, x, rfl, hp, h⟩ := h
    refine ⟨_, (pss_cons (ps_if (PW.pt (pw_or (pt_not (pt_val (pe_call GS (hr.mono (by decide)) (by rfl) mS FS.kp bS .nil pass0 (pa_cons (pv 1) pa_nil)))) (pw_or (pt_cmpR op_eq (pe_callB call_len_seq (by rfl) B.len PySem.boot_len (pa_cons (pv 1) pa_nil)) pe_int (nomark _)) (pw_or1 (pt_cmpR op_gt (pe_callB call_len_seq (by rfl) B.len PySem.boot_len (pa_cons (pv 1) pa_nil)) (pe_glob (v := .int 12) (by rfl) zc ⟨_, rfl⟩) (nomark _))))))
        (pss_one (ps_raise rfl (takes_of rfl rfl rfl rfl) (pmk_oex TB.oex TB.ini TB.inT GB (hr.mono (by decide)) bB .nil pass0 (by rfl) TB.mg (pa_cons pe_int (pa_cons pe_str pa_nil))))) pss_nil)
      (pss_cons (ps_set (i := 2) sc_world.nd rfl (Or.inl rfl) (pe_lst pa_nil))
      (pss_cons (ps_for (passes_of rfl) rfl (pi_or (pi_enum (by rfl) B.enumerate (pa_cons (pv 1) pa_nil)) (pi_enumT (by rfl) B.enumerate (pa_cons (pv 1) pa_nil))) (pg_tup (by rfl) (pgs_cons (pg_name (i := 3) sc_world.nd rfl (Or.inl rfl)) (pgs_cons (pg_name (i := 4) sc_world.nd rfl (Or.inl rfl)) pgs_nil)))
        (pss_cons (ps_set (i := 5) sc_world.nd rfl (Or.inl rfl) (pe_call GE hr (by rfl) mE FE.kp bE .nil pass0 (pa_cons (pv 4) (pa_cons (pv 3) pa_nil))))
        (pss_cons (ps_if (pt_cmpR op_notN (pv 5) pe_non (nomark _)) (pss_one (ps_raise rfl (takes_of rfl rfl rfl rfl) (pmk_oex TB.oex TB.ini TB.inT GB (hr.mono (by decide)) bB .nil pass0 (by rfl) TB.mg (pa_cons (pv 3) (pa_cons (pv 5) pa_nil))))) pss_nil)
        (pss_cons (ps_asg (pv 4) (pg_or (pg_unl (by rfl) (pgs_cons (pg_name (i := 6) sc_world.nd rfl (Or.inl rfl)) (pgs_cons (pg_name (i := 7) sc_world.nd rfl (Or.inl rfl)) (pgs_cons (pg_name (i := 8) sc_world.nd rfl (Or.inl rfl)) pgs_nil)))) (pg_tup (by rfl) (pgs_cons (pg_name (i := 6) sc_world.nd rfl (Or.inl rfl)) (pgs_cons (pg_name (i := 7) sc_world.nd rfl (Or.inl rfl)) (pgs_cons (pg_name (i := 8) sc_world.nd rfl (Or.inl rfl)) pgs_nil))))))
        (pss_one (ps_expr (pe_bm PySem.F.plainAttrs_list PySem.F.slot_list_append PySem.F.type_list_append mt_append (pv 2) (pa_cons (pe_tup (pa_cons (pe_callTy (T := "tuple") (r := rTupOf K) (call_tup (X := _)) (by rfl) B.tuple (by decide +kernel) (pa_cons (pv 6) pa_nil)) (pa_cons (pv 7) (pa_cons (pe_callTy (T := "tuple") (r := rTupOf K) (call_tup (X := _)) (by rfl) B.tuple (by decide +kernel) (pa_cons (pe_callB call_sortedSI (by rfl) B.sorted (by decide +kernel) (pa_cons (pv 8) pa_nil)) pa_nil)) pa_nil)))) pa_nil))))))))
      (pss_cons (ps_fld (pv 0) (pe_callTy (T := "tuple") (r := rTupOf K) (call_tup (X := _)) (by rfl) B.tuple (by decide +kernel) (pa_cons (pv 2) pa_nil)) rfl)
      (pss_cons (ps_fld (pv 0) (pe_callTy (T := "tuple") (r := rTupOf K) (call_tup (X := _)) (by rfl) B.tuple (by decide +kernel) (pa_cons (pe_box <| pe_lc (own := [("entry", 4)]) (g := gName 4) (tt := tYes) rfl sc_world.nd (pi_list (pv 2)) (blkOk_by (by rfl)) (fun _ _ _ _ _ => pg_name (i := 4) sc_world.nd rfl (Or.inl rfl)) (fun _ _ _ _ _ => pts_nil) (fun _ _ _ _ _ => pe_ix (r := rIxT K) ix_tup (pv 4) pe_int (fun _ _ => rfl))) pa_nil)) rfl)
      (pss_cons (ps_fld (pv 0) (pe_callTy (T := "tuple") (r := rTupOf K) (call_tup (X := _)) (by rfl) B.tuple (by decide +kernel) (pa_cons (pe_box <| pe_lc (own := [("entry", 4)]) (g := gName 4) (tt := tYes) rfl sc_world.nd (pi_list (pv 2)) (blkOk_by (by rfl)) (fun _ _ _ _ _ => pg_name (i := 4) sc_world.nd rfl (Or.inl rfl)) (fun _ _ _ _ _ => pts_nil) (fun _ _ _ _ _ => pe_ix (r := rIxT K) ix_tup (pv 4) pe_int (fun _ _ => rfl))) pa_nil)) rfl)
      (pss_cons (ps_fld (pv 0) (pe_callTy (T := "tuple") (r := rTupOf K) (call_tup (X := _)) (by rfl) B.tuple (by decide +kernel) (pa_cons (pe_box <| pe_lc (own := [("entry", 4)]) (g := gName 4) (tt := tYes) rfl sc_world.nd (pi_list (pv 2)) (blkOk_by (by rfl)) (fun _ _ _ _ _ => pg_name (i := 4) sc_world.nd rfl (Or.inl rfl)) (fun _ _ _ _ _ => pts_nil) (fun _ _ _ _ _ => pe_ix (r := rIxT K) ix_tup (pv 4) pe_int (fun _ _ => rfl))) pa_nil)) rfl)
      (pss_cons (ps_fld (pv 0) (pe_call GL (hr.mono (by decide)) (by rfl) mL FL.kp bL .nil pass0 (pa_cons (pe_fld (pv 0) rfl) pa_nil)) rfl)
      (pss_one (ps_fld (pv 0) (pe_call GH (hr.mono (by decide)) (by rfl) mH FH.kp bH .nil pass0 (pa_cons (pe_fld (pv 0) rfl) pa_nil)) rfl)))))))))), ?_⟩
    rcases h with ⟨h, k⟩ | ⟨a, es, ds, rfl, hA, hn0, hn12, hdl, hok, h⟩
    · rcases h with ⟨t, ty, hs⟩ | ⟨a, es, rfl, hA, hlen⟩
      · refine ⟨_, rfl, x, t, rfl, ty, fun H1 s1 => ⟨_, rfl, ?_⟩⟩
        rw [hs]
        exact iteT (raise_q rfl (by decide) fun d H' s2 _ e => k d H' (s1.trans s2) e)
      · obtain ⟨t, ty, hseq⟩ := hA.ty
        refine ⟨_, rfl, _, t, rfl, ty, fun H1 s1 => ⟨_, rfl, ?_⟩⟩
        rw [hseq]
        refine iteF ⟨_, rfl, a, es, rfl, (hA.same s1).sq, rfl, _, rfl, ?_⟩
        by_cases q : es.length = 0
        · have z : decide (V.int (es.length : Int) = V.int 0) = true := decide_eq_true (by rw [q]; rfl)
          rw [z]
          exact iteT (raise_q rfl (by decide) fun d H' s2 _ e => k d H' (s1.trans s2) e)
        · have z : decide (V.int (es.length : Int) = V.int 0) = false := decide_eq_false fun e => q (by have := V.int.inj e; omega)
          rw [z]
          refine iteF ⟨_, rfl, a, es, rfl, (hA.same s1).sq, _, _, rfl, rfl, _, rfl, ?_⟩
          rw [decide_eq_true (show (12 : Int) < (es.length : Int) by omega)]
          exact iteT (raise_q rfl (by decide) fun d H' s2 _ e => k d H' (s1.trans s2) e)
    · obtain ⟨t, ty, hseq⟩ := hA.ty
      refine ⟨_, rfl, _, t, rfl, ty, fun H1 s1 => ⟨_, rfl, ?_⟩⟩
      rw [hseq]
      refine iteF ⟨_, rfl, a, es, rfl, (hA.same s1).sq, rfl, _, rfl, ?_⟩
      rw [decide_eq_false (show ¬ V.int (es.length : Int) = V.int 0 from fun e => hn0 (by have := V.int.inj e; omega))]
      refine iteF ⟨_, rfl, a, es, rfl, (hA.same s1).sq, _, _, rfl, rfl, _, rfl, ?_⟩
      rw [decide_eq_false (show ¬ (12 : Int) < (es.length : Int) by omega)]
      refine iteF ⟨by decide, fun R hR => ?_⟩
      have hRH : H R = none := s1.free hR
      have sR : Same H (upd H1 R (.lst [])) := s1.trans (same_new hR)
      refine for_enumS (K := K) (a := a) (xs := es) rfl hA sR (fun i σ H' => Same H H' ∧ i ≤ ds.length ∧ ∃ us x3 x4 x5 x6 x7 x8, σ = [some (.ref p), some (.ref a), some (.ref R), x3, x4, x5, x6, x7, x8] ∧ H' R = some (.lst us) ∧ EntsAt H' us (ds.take i))
        ⟨sR, Nat.zero_le _, [], none, none, none, none, none, none, rfl, upd_same, .nil⟩ (fun i σ H' h => h.1) ?_ ?_
      · rintro i e σ H' T hi ⟨sH, hid, us, x3, x4, x5, x6, x7, x8, rfl, hRu, hE⟩ hT
        have hil : i < es.length := (List.getElem?_eq_some_iff.mp hi).1
        have sT : Same H' (upd H' T (.tup [.int (i : Nat), e])) := same_new hT
        refine ⟨T, _, rfl, SqT.of upd_same, rfl, _, _, rfl, _, _, rfl, rfl, ?_⟩
        generalize hG : upd H' T (.tup [.int (i : Nat), e]) = G at sT ⊢
        by_cases hd : i < ds.length
        · obtain ⟨d, hdi⟩ : ∃ d, ds[i]? = some d := ⟨_, List.getElem?_eq_getElem hd⟩
          obtain ⟨e', he', hok1⟩ := hok i d hdi
          obtain rfl : e = e' := Option.some.inj (hi.symm.trans he')
          have hokG := hok1.same (sH.trans sT)
          refine ⟨_, rfl, _, rfl, e, (i : Int), none, rfl, hokG.is, fun H2 s2 => ?_⟩
          have hok2 := hokG.same s2
          obtain ⟨ae, ab, am, rfl, hs, hb, hm, ⟨hb1, hb2, hb3⟩, hf, hm1, hm2, hm3⟩ := hok2
          have hRu2 : H2 R = some (.lst us) := s2 _ _ (sT _ _ hRu)
          have hE2 : EntsAt H2 us (ds.take i) := hE.mono (Same.tupK (Same.trans sT s2))
          have sH2 : Same H H2 := (sH.trans sT).trans s2
          refine ⟨_, rfl, rfl, _, rfl, iteF ?_⟩
          refine ⟨_, rfl, ?_⟩
          rcases hs with hs | hs
          case' inl => refine .inl ⟨ae, _, rfl, SqL.of hs, rfl, _, _, rfl, _, _, rfl, _, _, rfl, rfl, ?_⟩
          case' inr => refine .inr ⟨ae, _, rfl, SqT.of hs, rfl, _, _, rfl, _, _, rfl, _, _, rfl, rfl, ?_⟩
          all_goals
            refine ⟨_, rfl, .inl ⟨rfl, _, SqL.of hRu2⟩, _, rfl, ?_⟩
            refine tup_q hb fun tb H3 s3 hb' => ⟨_, rfl, _, rfl, am, d.2.2.map (fun (n : Nat) => (n : Int)), rfl, ?_, fun ys L perm srt hL => ?_⟩
            · have z := (hm.same s3).sq (K := K)
              rw [List.map_map]
              exact z
            · refine tup_q (.inl upd_same) fun tm H4 s4 hm' => ⟨by (show 3 ≤ sizeLine); decide, fun tt htt => ?_⟩
              have eys := sortN_one hm1 hm3 perm srt
              rw [eys] at hm'
              have sL := same_new (o := .lst (ys.map V.int)) hL
              have s34 : Same H3 H4 := sL.trans s4
              have s24 : Same H2 H4 := s3.trans s34
              have st := same_new (o := .tup [.ref tb, natV d.2.1, .ref tm]) htt
              have sA := s24.trans st
              refine ⟨R, us, _, rfl, rfl, sA _ _ hRu2, ?_, same_upd (sH2.trans sA) hRH, by omega, us ++ [.ref tt], _, _, _, _, _, _, rfl, upd_same, ?_⟩
              · rw [hE2.len, List.length_take]
                show _ < 2 ^ 24
                omega
              · have keep : TupK (upd H4 tt (.tup [.ref tb, natV d.2.1, .ref tm])) (upd (upd H4 tt (.tup [.ref tb, natV d.2.1, .ref tm])) R (.lst (us ++ [.ref tt]))) := tups_upd (sA _ _ hRu2) fun xs z => by cases z
                rw [List.take_add_one, hdi, Option.toList_some]
                exact (((hE2.mono (Same.tupK sA)).mono keep).app (.cons ⟨tt, rfl, tb, tm, keep _ _ upd_same, keep _ _ (st _ _ (s34 _ _ hb')), keep _ _ (st _ _ hm')⟩ .nil))
        · have hid' : i = ds.length := by omega
          subst hid'
          rcases h with ⟨e', word, he', his, k⟩ | ⟨hl, _⟩
          · obtain rfl : e = e' := Option.some.inj (hi.symm.trans he')
            refine ⟨_, rfl, _, rfl, e, (ds.length : Int), some word, rfl, his.same (sH.trans sT), fun H2 s2 => ?_⟩
            refine ⟨_, rfl, rfl, _, rfl, iteT ?_⟩
            exact ⟨_, rfl, _, rfl, raise_q rfl (by decide) fun d H' s3 _ e => k d H' (((sH.trans sT).trans s2).trans s3) e⟩
          · omega
      · rintro σ H0 ⟨sH, hid, us, x3, x4, x5, x6, x7, x8, rfl, hRu, hE⟩
        have hln : ds.length = es.length := by omega
        rcases h with ⟨e', word, he', _⟩ | ⟨_, k⟩
        · rw [hln, List.getElem?_eq_none (Nat.le_refl _)] at he'
          cases he'
        rw [List.take_of_length_le (by omega)] at hE
        have h12 : ds.length ≤ 12 := by omega
        have hp0 : H0 p = some (.ins C dx []) := sH _ _ hp
        have hRp : R ≠ p := fun z => by
          rw [z, hp0] at hRu
          cases hRu
        have O0 : Oth p H H0 := Oth.of sH
        -- classes
        refine ⟨_, rfl, ?_⟩
        refine tup_q (.inl hRu) fun pc G t1 hc => ⟨_, rfl, p, C, dx, [], rfl, t1 _ _ hp0, TC.cl, TC.no _ (List.mem_of_getElem? (i := 0) rfl), by simp, ?_⟩
        have O1 : Oth p H0 (upd G p (.ins C dx (putF "classes" (.ref pc) []))) := Oth.upd (Oth.of t1)
        have P1 : upd G p (.ins C dx (putF "classes" (.ref pc) [])) p = some (.ins C dx [("classes", .ref pc)]) := upd_same
        have C1 : upd G p (.ins C dx (putF "classes" (.ref pc) [])) pc = some (.tup us) := tups_upd (t1 _ _ hp0) (fun xs z => by cases z) _ _ hc
        generalize hN : upd G p (.ins C dx (putF "classes" (.ref pc) [])) = N1 at O1 P1 C1 ⊢
        have E1 : EntsAt N1 us ds := hE.mono (O1.tupK hp0)
        have R1 : N1 R = some (.lst us) := O1 _ _ hRp hRu
        clear hN t1 hc G
        -- bases
        refine Box.mk <| col_q (k := 0) ColB (fun H H' v d kk z => ?_) (fun H t d z => ?_) R1 E1 h12 fun D G0 bs t0 hD hB => ?_
        · obtain ⟨t, e1, e2⟩ := z
          exact ⟨t, e1, kk _ _ e2⟩
        · obtain ⟨tb, tm, z1, z2, z3⟩ := z
          exact ⟨_, _, z1, rfl, tb, rfl, z2⟩
        refine tup_q (.inl hD) fun pb G t1 hx => ⟨_, rfl, p, C, dx, _, rfl, t1 _ _ (t0 _ _ P1), TC.cl, TC.no _ (List.mem_of_getElem? (i := 1) rfl), by simp, ?_⟩
        have tt : Same N1 G := Same.trans t0 t1
        have O2 : Oth p N1 (upd G p (.ins C dx (putF "bases" (.ref pb) [("classes", .ref pc)]))) := Oth.upd (Oth.of tt)
        have P2 : upd G p (.ins C dx (putF "bases" (.ref pb) [("classes", .ref pc)])) p = some (.ins C dx [("classes", .ref pc), ("bases", .ref pb)]) := upd_same
        have X2 : upd G p (.ins C dx (putF "bases" (.ref pb) [("classes", .ref pc)])) pb = some (.tup bs) := tups_upd (tt _ _ P1) (fun xs z => by cases z) _ _ hx
        have kk2 : TupK G (upd G p (.ins C dx (putF "bases" (.ref pb) [("classes", .ref pc)]))) := tups_upd (tt _ _ P1) fun xs z => by cases z
        have T1 : TupsAt (upd G p (.ins C dx (putF "bases" (.ref pb) [("classes", .ref pc)]))) bs (ds.map (·.1)) := ((colB_tups hB).mono (Same.tupK t1)).mono kk2
        generalize hN : upd G p (.ins C dx (putF "bases" (.ref pb) [("classes", .ref pc)])) = N2 at O2 P2 X2 kk2 T1 ⊢
        have E2 : EntsAt N2 us ds := E1.mono (O2.tupK P1)
        have R2 : N2 R = some (.lst us) := O2 _ _ hRp R1
        clear hN kk2 tt t1 t0 hx hD hB G G0
        -- owns
        refine Box.mk <| col_q (k := 1) ColO (fun H H' v d kk z => z) (fun H t d z => ?_) R2 E2 h12 fun D G0 os t0 hD hB => ?_
        · obtain ⟨tb, tm, z1, z2, z3⟩ := z
          exact ⟨_, _, z1, rfl, rfl⟩
        refine tup_q (.inl hD) fun po G t1 hx => ⟨_, rfl, p, C, dx, _, rfl, t1 _ _ (t0 _ _ P2), TC.cl, TC.no _ (List.mem_of_getElem? (i := 2) rfl), by simp, ?_⟩
        have tt : Same N2 G := Same.trans t0 t1
        have O3 : Oth p N2 (upd G p (.ins C dx (putF "owns" (.ref po) [("classes", .ref pc), ("bases", .ref pb)]))) := Oth.upd (Oth.of tt)
        have P3 : upd G p (.ins C dx (putF "owns" (.ref po) [("classes", .ref pc), ("bases", .ref pb)])) p = some (.ins C dx [("classes", .ref pc), ("bases", .ref pb), ("owns", .ref po)]) := upd_same
        have X3 : upd G p (.ins C dx (putF "owns" (.ref po) [("classes", .ref pc), ("bases", .ref pb)])) po = some (.tup os) := tups_upd (tt _ _ P2) (fun xs z => by cases z) _ _ hx
        have kk3 : TupK G (upd G p (.ins C dx (putF "owns" (.ref po) [("classes", .ref pc), ("bases", .ref pb)]))) := tups_upd (tt _ _ P2) fun xs z => by cases z
        have T2 : os = (ds.map (·.2.1)).map natV := colO_nats hB
        generalize hN : upd G p (.ins C dx (putF "owns" (.ref po) [("classes", .ref pc), ("bases", .ref pb)])) = N3 at O3 P3 X3 kk3 ⊢
        have E3 : EntsAt N3 us ds := E2.mono (O3.tupK P2)
        have R3 : N3 R = some (.lst us) := O3 _ _ hRp R2
        clear hN kk3 tt t1 t0 hx hD hB G G0
        -- methods
        refine Box.mk <| col_q (k := 2) ColM (fun H H' v d kk z => ?_) (fun H t d z => ?_) R3 E3 h12 fun D G0 ms t0 hD hB => ?_
        · obtain ⟨t, e1, e2⟩ := z
          exact ⟨t, e1, kk _ _ e2⟩
        · obtain ⟨tb, tm, z1, z2, z3⟩ := z
          exact ⟨_, _, z1, rfl, tm, rfl, z3⟩
        refine tup_q (.inl hD) fun pm G t1 hx => ⟨_, rfl, p, C, dx, _, rfl, t1 _ _ (t0 _ _ P3), TC.cl, TC.no _ (List.mem_of_getElem? (i := 3) rfl), by simp, ?_⟩
        have tt : Same N3 G := Same.trans t0 t1
        have O4 : Oth p N3 (upd G p (.ins C dx (putF "methods" (.ref pm) [("classes", .ref pc), ("bases", .ref pb), ("owns", .ref po)]))) := Oth.upd (Oth.of tt)
        have P4 : upd G p (.ins C dx (putF "methods" (.ref pm) [("classes", .ref pc), ("bases", .ref pb), ("owns", .ref po)])) p = some (.ins C dx [("classes", .ref pc), ("bases", .ref pb), ("owns", .ref po), ("methods", .ref pm)]) := upd_same
        have X4 : upd G p (.ins C dx (putF "methods" (.ref pm) [("classes", .ref pc), ("bases", .ref pb), ("owns", .ref po)])) pm = some (.tup ms) := tups_upd (tt _ _ P3) (fun xs z => by cases z) _ _ hx
        have kk4 : TupK G (upd G p (.ins C dx (putF "methods" (.ref pm) [("classes", .ref pc), ("bases", .ref pb), ("owns", .ref po)]))) := tups_upd (tt _ _ P3) fun xs z => by cases z
        have T3 : TupsAt (upd G p (.ins C dx (putF "methods" (.ref pm) [("classes", .ref pc), ("bases", .ref pb), ("owns", .ref po)]))) ms (ds.map fun d => sortN d.2.2) := ((colM_tups hB).mono (Same.tupK t1)).mono kk4
        generalize hN : upd G p (.ins C dx (putF "methods" (.ref pm) [("classes", .ref pc), ("bases", .ref pb), ("owns", .ref po)])) = N4 at O4 P4 X4 kk4 T3 ⊢
        have E4 : EntsAt N4 us ds := E3.mono (O4.tupK P3)
        have R4 : N4 R = some (.lst us) := O4 _ _ hRp R3
        clear hN kk4 tt t1 t0 hx hD hB G G0
        -- elders
        have hv : validB (ds.map (·.1)) := fun c row hc b hb => by
          rw [List.getElem?_map] at hc
          obtain ⟨d, hd, rfl⟩ := Option.map_eq_some_iff.mp hc
          obtain ⟨e, _, _, _, _, _, _, _, _, ⟨_, _, z⟩, _⟩ := hok c d hd
          exact z b hb
        have hr12 : ∀ row ∈ ds.map (·.1), row.length ≤ 12 := fun row hrow => by
          obtain ⟨d, hd, rfl⟩ := List.mem_map.mp hrow
          obtain ⟨c, hc⟩ := List.mem_iff_getElem?.mp hd
          obtain ⟨e, _, _, _, _, _, _, _, _, ⟨_, z, _⟩, _⟩ := hok c d hc
          exact z
        have B4 : N4 pb = some (.tup bs) := O4.tupK P3 _ _ (O3.tupK P2 _ _ X2)
        have TB4 : TupsAt N4 bs (ds.map (·.1)) := (T1.mono (O3.tupK P2)).mono (O4.tupK P3)
        refine ⟨_, rfl, p, C, dx, _, _, rfl, P4, TC.cl, TC.no _ (List.mem_of_getElem? (i := 1) rfl), rfl, pb, bs, ds.map (·.1), rfl, B4, TB4, hv, by rw [List.length_map]; exact h12, hr12, fun G pe es' tt hx hU => ⟨_, rfl, p, C, dx, _, rfl, tt _ _ P4, TC.cl, TC.no _ (List.mem_of_getElem? (i := 4) rfl), by simp, ?_⟩⟩
        have O5 : Oth p N4 (upd G p (.ins C dx (putF "elders" (.ref pe) [("classes", .ref pc), ("bases", .ref pb), ("owns", .ref po), ("methods", .ref pm)]))) := Oth.upd (Oth.of tt)
        have P5 : upd G p (.ins C dx (putF "elders" (.ref pe) [("classes", .ref pc), ("bases", .ref pb), ("owns", .ref po), ("methods", .ref pm)])) p = some (.ins C dx [("classes", .ref pc), ("bases", .ref pb), ("owns", .ref po), ("methods", .ref pm), ("elders", .ref pe)]) := upd_same
        have X5 : upd G p (.ins C dx (putF "elders" (.ref pe) [("classes", .ref pc), ("bases", .ref pb), ("owns", .ref po), ("methods", .ref pm)])) pe = some (.tup es') := tups_upd (tt _ _ P4) (fun xs z => by cases z) _ _ hx
        have kk5 : TupK G (upd G p (.ins C dx (putF "elders" (.ref pe) [("classes", .ref pc), ("bases", .ref pb), ("owns", .ref po), ("methods", .ref pm)]))) := tups_upd (tt _ _ P4) fun xs z => by cases z
        have T4 : TupsAt (upd G p (.ins C dx (putF "elders" (.ref pe) [("classes", .ref pc), ("bases", .ref pb), ("owns", .ref po), ("methods", .ref pm)]))) es' (elders (ds.map (·.1))) := hU.mono kk5
        generalize hN : upd G p (.ins C dx (putF "elders" (.ref pe) [("classes", .ref pc), ("bases", .ref pb), ("owns", .ref po), ("methods", .ref pm)])) = N5 at O5 P5 X5 kk5 T4 ⊢
        clear hN kk5 tt hx hU G
        -- heirs
        refine ⟨_, rfl, p, C, dx, _, _, rfl, P5, TC.cl, TC.no _ (List.mem_of_getElem? (i := 4) rfl), rfl, pe, es', elders (ds.map (·.1)), rfl, X5, T4, by rw [elders_len, List.length_map]; exact h12, fun G ph hs tt hx hU => ⟨_, rfl, p, C, dx, _, rfl, tt _ _ P5, TC.cl, TC.no _ (List.mem_of_getElem? (i := 5) rfl), by simp, ?_⟩⟩
        have O6 : Oth p N5 (upd G p (.ins C dx (putF "heirs" (.ref ph) [("classes", .ref pc), ("bases", .ref pb), ("owns", .ref po), ("methods", .ref pm), ("elders", .ref pe)]))) := Oth.upd (Oth.of tt)
        have P6 : upd G p (.ins C dx (putF "heirs" (.ref ph) [("classes", .ref pc), ("bases", .ref pb), ("owns", .ref po), ("methods", .ref pm), ("elders", .ref pe)])) p = some (.ins C dx [("classes", .ref pc), ("bases", .ref pb), ("owns", .ref po), ("methods", .ref pm), ("elders", .ref pe), ("heirs", .ref ph)]) := upd_same
        have X6 : upd G p (.ins C dx (putF "heirs" (.ref ph) [("classes", .ref pc), ("bases", .ref pb), ("owns", .ref po), ("methods", .ref pm), ("elders", .ref pe)])) ph = some (.tup hs) := tups_upd (tt _ _ P5) (fun xs z => by cases z) _ _ hx
        have kk6 : TupK G (upd G p (.ins C dx (putF "heirs" (.ref ph) [("classes", .ref pc), ("bases", .ref pb), ("owns", .ref po), ("methods", .ref pm), ("elders", .ref pe)]))) := tups_upd (tt _ _ P5) fun xs z => by cases z
        have T5 : TupsAt (upd G p (.ins C dx (putF "heirs" (.ref ph) [("classes", .ref pc), ("bases", .ref pb), ("owns", .ref po), ("methods", .ref pm), ("elders", .ref pe)]))) hs (heirs (elders (ds.map (·.1)))) := hU.mono kk6
        generalize hN : upd G p (.ins C dx (putF "heirs" (.ref ph) [("classes", .ref pc), ("bases", .ref pb), ("owns", .ref po), ("methods", .ref pm), ("elders", .ref pe)])) = N6 at O6 P6 X6 kk6 T5 ⊢
        have k23 := O3.tupK P2
        have k34 := O4.tupK P3
        have k45 := O5.tupK P4
        have k56 := O6.tupK P5
        have k12 := O2.tupK P1
        have k16 : TupK N1 N6 := fun b xs e => k56 _ _ (k45 _ _ (k34 _ _ (k23 _ _ (k12 _ _ e))))
        have k26 : TupK N2 N6 := fun b xs e => k56 _ _ (k45 _ _ (k34 _ _ (k23 _ _ e)))
        have k36 : TupK N3 N6 := fun b xs e => k56 _ _ (k45 _ _ (k34 _ _ e))
        have k46 : TupK N4 N6 := fun b xs e => k56 _ _ (k45 _ _ e)
        exact k N6 ((((((O0.trans O1).trans O2).trans O3).trans O4).trans O5).trans O6) ⟨dx, pc, pb, po, pm, pe, ph, us, bs, ms, es', hs, P6, k16 _ _ C1, E1.mono k16, k26 _ _ X2, T1.mono k26, by rw [← T2]; exact k36 _ _ X3, k46 _ _ X4, T3.mono k46, k56 _ _ X5, T4.mono k56, X6, T5⟩
end
end K59

set_option maxRecDepth 100000
set_option maxHeartbeats 4000000
namespace K59
open PySem PySem.Spec PyProof.Rows L2 Kw
/-- the hand at p: its cells' list at q, the place, what is left of a great cell, the total -/
def HandAt (H : Hp) (p q : Addr) : Prop := ∃ (cs : List Int) (i r t : Int), H p = some (.lst [.ref q, .int i, .int r, .int t]) ∧ H q = some (.lst (cs.map V.int)) ∧ p ≠ q ∧
  (∀ c ∈ cs, 0 ≤ c) ∧ 0 ≤ i ∧ i ≤ (cs.length : Int) ∧ cs.length ≤ 63 ∧ 0 ≤ r ∧ 0 ≤ t ∧ t < 2147483549
def spHand (K : PySem.W.Frag) : Sp := fun vs H Q _ => ∃ (a : Addr) (ns : List Int), vs = [.ref a] ∧ SqL K H a (ns.map V.int) ∧ ns.length ≤ 63 ∧ ∀ p q H', Same H H' → H p = none → H q = none → HandAt H' p q → Q (.ref p) H'
def spMixed : Sp := fun vs H Q _ => ∃ n t : Int, vs = [.int n, .int t] ∧ 0 ≤ n ∧ n < 2147483600 ∧ 0 ≤ t ∧ t < 100 ∧ ∀ r : Int, 0 ≤ r → Q (.int r) H
def spTake : Sp := fun vs H Q _ => ∃ (p q : Addr) (m : Int), vs = [.ref p, .int m] ∧ 1 ≤ m ∧ m < 1073741824 ∧ HandAt H p q ∧ ∀ (r : Int) (H' : Hp), 0 ≤ r → r < m → HandAt H' p q → (∀ b, b ≠ p → H' b = H b) → Q (.int r) H'

theorem emod_in {a m : Int} (h : 0 < m) : 0 ≤ a % m ∧ a % m < m := ⟨Int.emod_nonneg _ (by omega), Int.emod_lt_of_pos _ h⟩
section
variable {P : Program} {w : World} {K : PySem.W.Frag} {mg : Str → Option Value} {base : Heap} {f : Addr} {fd : FuncData}
theorem scM : FnScope ["_law_number", "_law_turn", "_law_once", "_law_twice"] ["_law_number", "_law_turn"] (defScope (top 36)) := ⟨rfl, rfl, rfl, by decide +kernel, rfl, by decide +kernel, by decide +kernel⟩
theorem ok_mixed (F : FnP K "_law_mixed" 36 f fd) (gI : mg "int" = none) : FnOk P w K mg base CX0 1 f fd ["_law_number", "_law_turn"] spMixed := by
  refine F.ok scM (fun vs H Q E h => ?_) (fun cdv A outer s H vs Q E hr h => ?_)
  · obtain ⟨n, t, rfl, _⟩ := h
    rfl
  · obtain ⟨n, t, rfl, n0, n1, t0, t1, k⟩ := h
    refine ⟨_, PSs.nox (pss_cons (ps_set (i := 2) scM.nd rfl (Or.inl rfl) (pe_op op_mod (pe_callTy call_int1 (by rfl) gI PyProof.Rows.boot_int (pa_cons (pe_op op_add (pe_op op_add (pe_op op_mul (pv 0) pe_int) (pe_op op_mul (pv 1) pe_int)) pe_int) pa_nil)) pe_int))
      (pss_cons (ps_set (i := 3) scM.nd rfl (Or.inl rfl) (pe_op op_mod (pe_callTy call_int1 (by rfl) gI PyProof.Rows.boot_int (pa_cons (pe_op op_add (pe_op op_add (pe_op op_mul (pv 2) (pv 2)) (pe_op op_mul (pv 1) pe_int)) (pe_op op_fdiv (pv 2) pe_int)) pa_nil)) pe_int))
      (pss_one (ps_ret (pe_op op_fdiv (pe_callTy call_int1 (by rfl) gI PyProof.Rows.boot_int (pa_cons (pe_op op_mod (pe_callTy call_int1 (by rfl) gI PyProof.Rows.boot_int (pa_cons (pe_op op_add (pe_op op_mul (pv 3) pe_int) (pe_op op_fdiv (pv 2) pe_int)) pa_nil)) pe_int) pa_nil)) pe_int))))), ?_⟩
    refine ⟨_, rfl, _, _, rfl, rfl, .inr ⟨by decide, by decide⟩, _, rfl, _, _, rfl, rfl, .inr ⟨by decide, by decide⟩, _, _, rfl, rfl, _, _, rfl, rfl, .inl ⟨_, rfl, _, _, rfl, rfl, (by show (0 : Int) < 2147483399; decide), ?_⟩⟩
    have bo := emod_in (a := n * 48271 + t * 7919 + 30011) (m := 2147483399) (by decide)
    refine ⟨_, rfl, _, rfl, _, _, rfl, rfl, .inl ⟨by show (-(2 ^ 64) : Int) < (n * 48271 + t * 7919 + 30011) % 2147483399; omega, by show (n * 48271 + t * 7919 + 30011) % 2147483399 < (2 ^ 64 : Int); omega⟩, _, rfl, _, _, rfl, rfl, .inr ⟨by decide, by decide⟩, _, _, rfl, rfl, _, rfl, _, _, rfl, rfl, ⟨by decide, by decide⟩, _, _, rfl, rfl, .inl ⟨_, rfl, _, _, rfl, rfl, (by show (0 : Int) < 2147483629; decide), ?_⟩⟩
    refine ⟨_, rfl, _, _, rfl, rfl, .inr ⟨by decide, by decide⟩, _, rfl, _, _, rfl, rfl, ⟨by decide, by decide⟩, _, _, rfl, rfl, .inl ⟨_, rfl, _, _, rfl, rfl, (by show (0 : Int) < 2147483587; decide), .inl ⟨_, rfl, _, _, rfl, rfl, ⟨by decide, by decide⟩, ?_⟩⟩⟩
    exact k _ (Int.ediv_nonneg (emod_in (by decide)).1 (by decide))

theorem scH : FnScope ["_law_script", "_law_total", "_law_cells", "_law_cell"] ["_law_script"] (defScope (top 35)) := ⟨rfl, rfl, rfl, by decide +kernel, rfl, by decide +kernel, by decide +kernel⟩
theorem ok_hand (F : FnP K "_law_hand" 35 f fd) (gI : mg "int" = none) (gL : mg "len" = none) (gA : mg "abs" = none) : FnOk P w K mg base CX0 1 f fd ["_law_script"] (spHand K) := by
  refine F.ok scH (fun vs H Q E h => ?_) (fun cdv A outer s H vs Q E hr h => ?_)
  · obtain ⟨a, ns, rfl, _⟩ := h
    rfl
  · obtain ⟨a, ns, rfl, hS, hl, k⟩ := h
    refine ⟨_, PSs.nox (pss_cons (ps_set (i := 1) scH.nd rfl (Or.inl rfl) (pe_op op_add (pe_callB call_len_seq (by rfl) gL PySem.boot_len (pa_cons (pv 0) pa_nil)) pe_int))
      (pss_cons (ps_set (i := 2) scH.nd rfl (Or.inl rfl) (pe_lst pa_nil))
      (pss_cons (ps_for PassesOwn.never rfl (pi_list (pv 0)) (pg_name (i := 3) scH.nd rfl (Or.inl rfl))
        (pss_cons (ps_set (i := 1) scH.nd rfl (Or.inl rfl) (pe_op op_mod (pe_callTy call_int1 (by rfl) gI PyProof.Rows.boot_int (pa_cons (pe_op op_add (pe_op op_mul (pv 1) pe_int) (pe_callTy call_int1 (by rfl) gI PyProof.Rows.boot_int (pa_cons (pv 3) pa_nil))) pa_nil)) pe_int))
        (pss_one (ps_expr (pe_bm PySem.F.plainAttrs_list PySem.F.slot_list_append PySem.F.type_list_append mt_append (pv 2) (pa_cons (pe_callB call_abs (by rfl) gA PyProof.Rows.boot_abs (pa_cons (pe_callTy call_int1 (by rfl) gI PyProof.Rows.boot_int (pa_cons (pv 3) pa_nil)) pa_nil)) pa_nil))))))
      (pss_one (ps_ret (pe_lst (pa_cons (pv 2) (pa_cons pe_int (pa_cons pe_int (pa_cons (pv 1) pa_nil)))))))))), ?_⟩
    refine ⟨_, rfl, a, _, rfl, .inl hS, _, _, rfl, rfl, Nat.zero_le _, fun q hq => ?_⟩
    have sq : Same H (upd H q (.lst [])) := fun b o e => by
      rw [upd_ne (ne_of_none e hq)]
      exact e
    refine ⟨_, rfl, a, rfl, ⟨_, sq.seq hS⟩, for_list (K := K) (a := a) (xs := ns.map V.int) (fun i σ H' => ∃ (t : Int) (cs : List Int) (v : Option V), σ = [some (.ref a), some (.int t), some (.ref q), v] ∧ Same H H' ∧ H q = none ∧ H' q = some (.lst (cs.map V.int)) ∧ cs.length = i ∧ (∀ c ∈ cs, 0 ≤ c) ∧ 0 ≤ t ∧ t < 2147483549)
      ⟨_, [], none, rfl, sq, hq, upd_same, rfl, (fun c hc => by cases hc), ?_, ?_⟩ (fun i σ H' _ ⟨_, _, _, _, s, _⟩ => s.seq hS) ?_ ?_⟩
    · show (0 : Int) ≤ ((ns.map V.int).length : Int) + 37
      omega
    · show ((ns.map V.int).length : Int) + 37 < 2147483549
      rw [List.length_map]
      omega
    · rintro i y σ H' hi ⟨t, cs, v, rfl, s, hq0, hc, hln, h0, t0, t1⟩
      obtain ⟨u, rfl⟩ : ∃ u, y = V.int u := by
        rw [List.getElem?_map] at hi
        cases e : ns[i]? with
        | none =>
          rw [e] at hi
          cases hi
        | some u =>
          rw [e] at hi
          exact ⟨u, (Option.some.inj hi).symm⟩
      have hi63 : i < ns.length := by
        have z := (List.getElem?_eq_some_iff.mp hi).1
        rw [List.length_map] at z
        exact z
      refine ⟨_, rfl, _, _, rfl, rfl, .inr ⟨by decide, by decide⟩, _, rfl, .inl ⟨_, rfl, _, _, rfl, rfl, .inl ⟨_, rfl, _, _, rfl, rfl, (by show (0 : Int) < 2147483549; decide), ?_⟩⟩⟩
      have bt := emod_in (a := t * 1709 + u) (m := 2147483549) (by decide)
      refine ⟨_, rfl, .inl ⟨rfl, _, SqL.of hc⟩, _, rfl, .inl ⟨_, rfl, _, rfl, q, _, _, rfl, rfl, hc, ?_, ?_⟩⟩
      · rw [List.length_map]
        exact small1000 (by omega)
      · refine ⟨_, cs ++ [if u < 0 then -u else u], _, rfl, fun b o e => ?_, hq0, ?_, ?_, ?_, bt.1, bt.2⟩
        · rw [upd_ne (ne_of_none e hq0)]
          exact s b o e
        · rw [upd_same, List.map_append]
          rfl
        · rw [List.length_append, hln]
          rfl
        · intro c hc'
          rcases List.mem_append.mp hc' with z | z
          · exact h0 c z
          · rw [List.mem_singleton.mp z]
            split <;> omega
    · rintro σ H' ⟨t, cs, v, rfl, s, hq0, hc, hln, h0, t0, t1⟩
      refine ⟨_, rfl, _, rfl, (by show 4 ≤ sizeLine; decide), fun p hp => ?_⟩
      have npq : p ≠ q := fun z => by
        rw [z, hc] at hp
        cases hp
      have hln' : cs.length = ns.length := by
        rw [hln, List.length_map]
      refine k p q _ (fun b o e => ?_) (s.free hp) hq0 ⟨cs, 0, 0, t, upd_same, by rw [upd_ne npq.symm]; exact hc, npq, h0, Int.le_refl _, by omega, by omega, Int.le_refl _, t0, t1⟩
      rw [upd_ne (ne_of_none (s b o e) hp)]
      exact s b o e
end
theorem at4 {a b c d : V} : atI [a, b, c, d] 0 = some a ∧ atI [a, b, c, d] 1 = some b ∧ atI [a, b, c, d] 2 = some c ∧ atI [a, b, c, d] 3 = some d := ⟨rfl, rfl, rfl, rfl⟩
theorem vint {a b : Int} (h : decide (V.int a = V.int b) = true) : a = b := V.int.inj (of_decide_eq_true h)
theorem dec_t {c : Prop} [Decidable c] (h : decide c = true) : c := of_decide_eq_true h
theorem dec_f {c : Prop} [Decidable c] (h : ¬ decide c = true) : ¬ c := fun z => h (decide_eq_true z)
section
variable {P : Program} {w : World} {K : PySem.W.Frag} {mg : Str → Option Value} {base : Heap} {f fM : Addr} {fd fdM : FuncData}
theorem scT : FnScope ["_law_hand_here", "_law_many", "_law_cell", "_law_rest"] ["_law_hand_here", "_law_many"] (defScope (top 37)) := ⟨rfl, rfl, rfl, by decide +kernel, rfl, by decide +kernel, by decide +kernel⟩
theorem ok_take (F : FnP K "_law_take" 37 f fd) (FM : FnP K "_law_mixed" 36 fM fdM) (mM : mg "_law_mixed" = some (.ref fM)) (gI : mg "int" = none) (gL : mg "len" = none) : FnOk P w K mg base CX0 2 f fd ["_law_hand_here", "_law_many"] spTake := by
  have GM : FnOk P w K mg base CX0 1 fM fdM ["_law_number", "_law_turn"] spMixed := ok_mixed FM gI
  have bM : Binds K fdM ["_law_number", "_law_turn"] [] := FM.bindsN fun _ _ _ _ _ _ us hl => match us, hl with | [_, _], _ => rfl
  refine F.ok scT (fun vs H Q E h => ?_) (fun cdv A outer s H vs Q E hr h => ?_)
  · obtain ⟨n, q, t, rfl, _⟩ := h
    rfl
  · obtain ⟨p, q, m, rfl, m1, m2, hh, k⟩ := h
    refine ⟨_, PSs.nox (C8.pss_cut (ps_if (PW.pt (pw_and (pt_cmpR op_eq (pe_ix ix_list (pv 0) pe_int (fun _ _ => rfl)) pe_int (nomark _)) (pw_and1 (pt_cmpR op_lt (pe_ix ix_list (pv 0) pe_int (fun _ _ => rfl)) (pe_callB call_len_seq (by rfl) gL PySem.boot_len (pa_cons (pe_ix ix_list (pv 0) pe_int (fun _ _ => rfl)) pa_nil)) (nomark _)))))
        (pss_cons (ps_set (i := 2) scT.nd rfl (Or.inl rfl) (pe_ix ix_list (pe_ix ix_list (pv 0) pe_int (fun _ _ => rfl)) (pe_ix ix_list (pv 0) pe_int (fun _ _ => rfl)) (fun _ _ => rfl)))
        (pss_cons (ps_asg (pe_op op_add (pe_ix ix_list (pv 0) pe_int (fun _ _ => rfl)) pe_int) (pg_sub (pv 0) pe_int set_list (fun _ => rfl)))
        (pss_cons (ps_if (pt_cmpR op_lt (pv 2) (pe_op op_pow pe_int pe_int) (nomark _))
            (pss_one (ps_ret (pe_op op_mod (pe_callTy call_int1 (by rfl) gI PyProof.Rows.boot_int (pa_cons (pe_call GM hr rfl mM FM.kp bM .nil pass0 (pa_cons (pe_op op_mod (pe_callTy call_int1 (by rfl) gI PyProof.Rows.boot_int (pa_cons (pv 2) pa_nil)) pe_int) (pa_cons (pe_ix ix_list (pv 0) pe_int (fun _ _ => rfl)) pa_nil))) pa_nil)) (pv 1)))) pss_nil)
        (pss_one (ps_asg (pv 2) (pg_sub (pv 0) pe_int set_list (fun _ => rfl))))))) pss_nil)
      (C8.pss_cut (ps_if (pt_cmpR op_gt (pe_ix ix_list (pv 0) pe_int (fun _ _ => rfl)) pe_int (nomark _))
        (pss_cons (ps_set (i := 3) scT.nd rfl (Or.inl rfl) (pe_ix ix_list (pv 0) pe_int (fun _ _ => rfl)))
        (pss_cons (ps_asg (pe_op op_fdiv (pe_callTy call_int1 (by rfl) gI PyProof.Rows.boot_int (pa_cons (pv 3) pa_nil)) (pv 1)) (pg_sub (pv 0) pe_int set_list (fun _ => rfl)))
        (pss_one (ps_ret (pe_op op_mod (pe_callTy call_int1 (by rfl) gI PyProof.Rows.boot_int (pa_cons (pv 3) pa_nil)) (pv 1)))))) pss_nil)
      (pss_cons (ps_asg (pe_op op_mod (pe_callTy call_int1 (by rfl) gI PyProof.Rows.boot_int (pa_cons (pe_op op_add (pe_ix ix_list (pv 0) pe_int (fun _ _ => rfl)) pe_int) pa_nil)) pe_int) (pg_sub (pv 0) pe_int set_list (fun _ => rfl)))
      (pss_one (ps_ret (pe_op op_mod (pe_callTy call_int1 (by rfl) gI PyProof.Rows.boot_int (pa_cons (pe_call GM hr rfl mM FM.kp bM .nil pass0 (pa_cons (pe_ix ix_list (pv 0) pe_int (fun _ _ => rfl)) (pa_cons (pe_ix ix_list (pv 0) pe_int (fun _ _ => rfl)) pa_nil))) pa_nil)) (pv 1))))))), ?_⟩
    -- between the statements: some hand stands at p, nothing else has changed
    let Mid : L2.St → Hp → Prop := fun σ H' => ∃ c d, σ = [some (.ref p), some (.int m), c, d] ∧ HandAt H' p q ∧ ∀ b, b ≠ p → H' b = H b
    have setH : ∀ {H' : Hp} {cs : List Int} {i r t : Int}, H' q = some (.lst (cs.map V.int)) → p ≠ q → (∀ c ∈ cs, 0 ≤ c) → 0 ≤ i → i ≤ (cs.length : Int) → cs.length ≤ 63 → 0 ≤ r → 0 ≤ t → t < 2147483549 →
        HandAt (upd H' p (.lst [.ref q, .int i, .int r, .int t])) p q := fun hq npq h0 i0 i1 l r0 t0 t1 => ⟨_, _, _, _, upd_same, by rw [upd_ne npq.symm]; exact hq, npq, h0, i0, i1, l, r0, t0, t1⟩
    have setB : ∀ {H' : Hp} {o : HO}, (∀ b, b ≠ p → H' b = H b) → ∀ b, b ≠ p → upd H' p o b = H b := fun h b hb => by rw [upd_ne hb]; exact h b hb
    refine ⟨Mid, ?_, ?_⟩
    · obtain ⟨cs, i, r, t, hp, hq, npq, h0, i0, i1, hl, r0, t0, t1⟩ := id hh
      refine ⟨_, rfl, p, _, _, _, rfl, rfl, SqL.of hp, at4.2.2.1, rfl, _, rfl, ?_⟩
      refine ite2 (fun e => ?_) (fun _ => iteF ⟨_, _, rfl, hh, fun b _ => rfl⟩)
      refine ⟨_, rfl, p, _, _, _, rfl, rfl, SqL.of hp, at4.2.1, _, rfl, p, _, _, _, rfl, rfl, SqL.of hp, at4.1, q, _, rfl, .inl (SqL.of hq), _, _, rfl, rfl, _, rfl, ?_⟩
      refine ite2 (fun e2 => ?_) (fun _ => ⟨_, _, rfl, hh, fun b _ => rfl⟩)
      have il : i < ((cs.map V.int).length : Int) := dec_t e2
      rw [List.length_map] at il
      obtain ⟨j, rfl⟩ : ∃ j : Nat, i = (j : Int) := ⟨i.toNat, by omega⟩
      have jl : j < cs.length := by omega
      have hc : (cs.map V.int)[j]? = some (V.int cs[j]) := by
        rw [List.getElem?_map, List.getElem?_eq_getElem jl]
        rfl
      have c0 := h0 _ (List.getElem_mem jl)
      generalize cs[j] = c at hc c0
      refine ⟨_, rfl, p, _, _, _, rfl, rfl, SqL.of hp, at4.1, _, rfl, p, _, _, _, rfl, rfl, SqL.of hp, at4.2.1, q, _, _, _, rfl, rfl, SqL.of hq, atI_nat hc, ?_⟩
      refine ⟨_, rfl, p, _, _, _, rfl, rfl, SqL.of hp, at4.2.1, _, _, rfl, rfl, _, rfl, p, _, _, 1, rfl, rfl, hp, rfl, ?_⟩
      have hh1 : HandAt (upd H p (.lst [.ref q, .int ((j : Int) + 1), .int r, .int t])) p q := setH hq npq h0 (by omega) (by omega) hl r0 t0 t1
      refine ⟨_, rfl, _, _, rfl, rfl, ⟨by decide, by decide, by decide⟩, _, _, rfl, rfl, _, rfl, ?_⟩
      refine ite2 (fun _ => ?_) (fun _ => ?_)
      · refine ⟨_, rfl, .inl ⟨_, rfl, _, _, rfl, rfl, (by show (0 : Int) < 2147483399; decide), _, rfl, p, _, _, _, rfl, rfl, SqL.of upd_same, at4.2.1, ?_⟩⟩
        have b := emod_in (a := c) (m := 2147483399) (by decide)
        refine ⟨_, _, rfl, b.1, by omega, by omega, by omega, fun x x0 => .inl ⟨_, rfl, _, rfl, _, _, rfl, rfl, (by show (0 : Int) < m; omega), ?_⟩⟩
        have bm := emod_in (a := x) (m := m) (by omega)
        exact k _ _ bm.1 bm.2 hh1 (setB fun b _ => rfl)
      · refine ⟨_, rfl, _, rfl, p, _, _, 2, rfl, rfl, upd_same, rfl, ?_⟩
        rw [upd_upd]
        exact ⟨_, _, rfl, setH hq npq h0 (by omega) (by omega) hl c0 t0 t1, setB fun b _ => rfl⟩
    · rintro σ H1 ⟨c, d, rfl, hh1, hb1⟩
      refine ⟨Mid, ?_, ?_⟩
      · obtain ⟨cs, i, r, t, hp, hq, npq, h0, i0, i1, hl, r0, t0, t1⟩ := id hh1
        refine ⟨_, rfl, p, _, _, _, rfl, rfl, SqL.of hp, at4.2.2.1, _, _, rfl, rfl, _, rfl, ?_⟩
        refine ite2 (fun e => ?_) (fun _ => ⟨_, _, rfl, hh1, hb1⟩)
        refine ⟨_, rfl, p, _, _, _, rfl, rfl, SqL.of hp, at4.2.2.1, _, rfl, .inl ⟨_, rfl, _, rfl, _, _, rfl, rfl, ⟨by show (0 : Int) < m; omega, m2⟩, _, rfl, p, _, _, 2, rfl, rfl, hp, rfl, _, rfl, .inl ⟨_, rfl, _, rfl, _, _, rfl, rfl, (by show (0 : Int) < m; omega), ?_⟩⟩⟩
        have bm := emod_in (a := r) (m := m) (by omega)
        exact k _ _ bm.1 bm.2 (setH hq npq h0 i0 i1 hl (Int.ediv_nonneg r0 (by omega)) t0 t1) (setB hb1)
      · rintro σ H2 ⟨c, d, rfl, hh2, hb2⟩
        obtain ⟨cs, i, r, t, hp, hq, npq, h0, i0, i1, hl, r0, t0, t1⟩ := id hh2
        refine ⟨_, rfl, p, _, _, _, rfl, rfl, SqL.of hp, at4.2.2.2, _, _, rfl, rfl, .inl ⟨_, rfl, _, _, rfl, rfl, (by show (0 : Int) < 2147483549; decide), _, rfl, p, _, _, 3, rfl, rfl, hp, rfl, ?_⟩⟩
        have bt := emod_in (a := t + 1) (m := 2147483549) (by decide)
        refine ⟨_, rfl, p, _, _, _, rfl, rfl, SqL.of upd_same, at4.2.2.2, _, rfl, p, _, _, _, rfl, rfl, SqL.of upd_same, at4.2.1, _, _, rfl, bt.1, by omega, i0, by omega, fun x x0 => .inl ⟨_, rfl, _, rfl, _, _, rfl, rfl, (by show (0 : Int) < m; omega), ?_⟩⟩
        have bm := emod_in (a := x) (m := m) (by omega)
        exact k _ _ bm.1 bm.2 (setH hq npq h0 i0 i1 hl r0 bt.1 bt.2) (setB hb2)
end
end K59

set_option maxRecDepth 100000
set_option maxHeartbeats 4000000
namespace K59
open PySem PySem.Spec PyProof.Rows L2 Kw
theorem HandAt.keep {H H' : Hp} {p q : Addr} (h : HandAt H p q) (s : ∀ b, b = p ∨ b = q → ∀ o, H b = some o → H' b = some o) : HandAt H' p q := by
  obtain ⟨cs, i, r, t, h1, h2, h3⟩ := h
  exact ⟨cs, i, r, t, s p (.inl rfl) _ h1, s q (.inr rfl) _ h2, h3⟩
theorem HandAt.same {H H' : Hp} {p q : Addr} (h : HandAt H p q) (s : Same H H') : HandAt H' p q := h.keep fun b _ o e => s b o e
theorem HandAt.ne {H : Hp} {p q l : Addr} (h : HandAt H p q) (hl : H l = none) : l ≠ p ∧ l ≠ q := by
  obtain ⟨cs, i, r, t, h1, h2, h3⟩ := h
  exact ⟨fun z => (by rw [z, h1] at hl; cases hl), fun z => (by rw [z, h2] at hl; cases hl)⟩
theorem HandAt.upd {H : Hp} {p q l : Addr} {o : HO} (h : HandAt H p q) (hp : l ≠ p) (hq : l ≠ q) : HandAt (upd H l o) p q := h.keep fun b hb u e => by
  refine upB (fun z => ?_) e
  rcases hb with hb | hb
  · exact hp (z ▸ hb)
  · exact hq (z ▸ hb)
theorem tab_at {tab : List Int} {r : Int} (h0 : 0 ≤ r) (h1 : r < (tab.length : Int)) : ∃ v, atI (tab.map V.int) r = some (V.int v) ∧ v ∈ tab := by
  obtain ⟨j, rfl⟩ : ∃ j : Nat, r = (j : Int) := ⟨r.toNat, by omega⟩
  have hj : j < tab.length := by omega
  exact ⟨tab[j], atI_nat (by rw [List.getElem?_map, List.getElem?_eq_getElem hj]; rfl), List.getElem_mem hj⟩
section
variable {P : Program} {w : World} {K : PySem.W.Frag} {mg : Str → Option Value} {base : Heap} {f fT fM : Addr} {fd fdT fdM : FuncData}
def spBases : Sp := fun vs H Q _ => ∃ (p q : Addr) (c : Nat), vs = [.ref p, .int (c : Int)] ∧ c ≤ 12 ∧ HandAt H p q ∧
  ∀ l H' (bs : List Nat), Oth p H H' → HandAt H' p q → H l = none → H' l = some (.lst (bs.map natV)) → bs.Nodup → (∀ b ∈ bs, b < c) → bs.length ≤ 3 → Q (.ref l) H'
theorem sc_bases : FnScope ["_law_hand_here", "_law_c", "_law_bases_here", "_law_step", "_law_base"] ["_law_hand_here", "_law_c"] (defScope (top 38)) := ⟨rfl, rfl, rfl, by decide +kernel, rfl, by decide +kernel, by decide +kernel⟩
theorem ok_bases (F : FnP K "_law_bases" 38 f fd) (B : Fr mg) (FT : FnP K "_law_take" 37 fT fdT) (mT : mg "_law_take" = some (.ref fT)) (FM : FnP K "_law_mixed" 36 fM fdM) (mM : mg "_law_mixed" = some (.ref fM)) :
    FnOk P w K mg base CX0 3 f fd ["_law_hand_here", "_law_c"] spBases := by
  have GT : FnOk P w K mg base CX0 2 fT fdT ["_law_hand_here", "_law_many"] spTake := ok_take FT FM mM B.int B.len
  have bT : L2.Binds K fdT ["_law_hand_here", "_law_many"] [] := FT.bindsN fun _ _ _ _ _ _ us hl => match us, hl with | [_, _], _ => rfl
  refine F.ok sc_bases (fun vs H Q E h => ?_) (fun cdv A outer s H vs Q E hr h => ?_)
  · obtain ⟨p, q, c, rfl, _⟩ := h
    rfl
  · obtain ⟨p, q, c, rfl, hc, hh, k⟩ := h
    refine ⟨_, PSs.nox (pss_cons (ps_set (i := 2) sc_bases.nd rfl (Or.inl rfl) (pe_lst pa_nil))
      (pss_cons (ps_for PassesOwn.never rfl (pi_range1 (by rfl) B.range (pa_cons (pe_ix ix_tup (pe_tup (pa_cons pe_int (pa_cons pe_int (pa_cons pe_int (pa_cons pe_int (pa_cons pe_int (pa_cons pe_int (pa_cons pe_int (pa_cons pe_int pa_nil))))))))) (pe_call GT hr (by rfl) mT FT.kp bT .nil pass0 (pa_cons (pv 0) (pa_cons pe_int pa_nil))) (fun _ _ => rfl)) pa_nil)) (pg_name (i := 3) sc_bases.nd rfl (Or.inl rfl))
        (pss_one (ps_if (pt_cmpR op_gt (pv 1) pe_int (nomark _))
          (pss_cons (ps_set (i := 4) sc_bases.nd rfl (Or.inl rfl) (pe_call GT hr (by rfl) mT FT.kp bT .nil pass0 (pa_cons (pv 0) (pa_cons (pv 1) pa_nil))))
          (pss_one (ps_if (pt_cmpR (r := rIn K true) op_notIn_seq (pv 4) (pv 2) (by rfl)) (pss_one (ps_expr (pe_bm PySem.F.plainAttrs_list PySem.F.slot_list_append PySem.F.type_list_append mt_append (pv 2) (pa_cons (pv 4) pa_nil)))) pss_nil))) pss_nil)))
      (pss_one (ps_ret (pv 2))))), ?_⟩
    refine ⟨by decide, fun l hl => ?_⟩
    obtain ⟨lp, lq⟩ := hh.ne hl
    have h1 : HandAt (upd H l (.lst [])) p q := hh.upd lp lq
    refine ⟨by (show 8 ≤ sizeLine); decide, fun t ht => ?_⟩
    obtain ⟨tp, tq⟩ := h1.ne ht
    have tl : t ≠ l := fun z => by
      rw [z, upd_same] at ht
      cases ht
    refine ⟨_, rfl, p, q, 8, rfl, by decide, by decide, h1.upd tp tq, fun r H2 r0 r1 h2 e2 => ?_⟩
    obtain ⟨v, hv, hm⟩ := tab_at (tab := [0, 1, 1, 2, 2, 2, 3, 1]) r0 r1
    have hv3 : 0 ≤ v ∧ v ≤ 3 := (by decide : ∀ v ∈ ([0, 1, 1, 2, 2, 2, 3, 1] : List Int), 0 ≤ v ∧ v ≤ 3) v hm
    have T2 : H2 t = some (.tup (([0, 1, 1, 2, 2, 2, 3, 1] : List Int).map V.int)) := by
      rw [e2 t tp]
      exact upd_same
    have O2 : Oth p H H2 := fun b o nb e => by
      rw [e2 b nb]
      exact upB (ne_of_none (upB (ne_of_none e hl) e) ht) (upB (ne_of_none e hl) e)
    have L2' : H2 l = some (.lst []) := by
      rw [e2 l lp]
      exact upB tl.symm upd_same
    refine ⟨t, _, r, _, rfl, rfl, SqT.of T2, hv, v, rfl, by omega, by omega, for_range (n := v.toNat) (fun i σ H' => ∃ (bs : List Nat) (x3 x4 : Option V), σ = [some (.ref p), some (.int (c : Int)), some (.ref l), x3, x4] ∧ HandAt H' p q ∧ Oth p H H' ∧ H' l = some (.lst (bs.map natV)) ∧ bs.Nodup ∧ (∀ b ∈ bs, b < c) ∧ bs.length ≤ i)
      ⟨[], none, none, rfl, h2, O2, L2', List.nodup_nil, fun b hb => (by cases hb), Nat.le_refl _⟩ ?_ ?_⟩
    · rintro i σ H3 hi ⟨bs, x3, x4, rfl, h3, O3, L3, nd, hb, hl3⟩
      refine ⟨_, rfl, _, _, rfl, rfl, _, rfl, ?_⟩
      refine ite2 (fun e => ?_) (fun _ => ⟨bs, _, _, rfl, h3, O3, L3, nd, hb, by omega⟩)
      have c0 : (0 : Int) < (c : Int) := of_decide_eq_true e
      refine ⟨_, rfl, _, rfl, p, q, (c : Int), rfl, by omega, by omega, h3, fun r H4 r0 r1 h4 e4 => ?_⟩
      obtain ⟨b, rfl⟩ : ∃ b : Nat, r = (b : Int) := ⟨r.toNat, by omega⟩
      have L4 : H4 l = some (.lst (bs.map natV)) := by
        rw [e4 l lp]
        exact L3
      have O4 : Oth p H H4 := fun a o na e => by
        rw [e4 a na]
        exact O3 a o na e
      refine ⟨_, rfl, _, rfl, l, _, rfl, .inl (SqL.of L4), rfl, flat_nats bs, _, rfl, ?_⟩
      have ein : inV (.int (b : Int)) (bs.map natV) = bs.contains b := inV_nat b bs
      show (if (!inV (.int (b : Int)) (bs.map natV)) = true then _ else _)
      rw [ein]
      cases hbc : bs.contains b with
      | true => exact iteF ⟨bs, _, _, rfl, h4, O4, L4, nd, hb, by omega⟩
      | false =>
        have nb : b ∉ bs := fun z => by
          rw [List.contains_iff_mem.mpr z] at hbc
          cases hbc
        refine iteT ⟨_, rfl, .inl ⟨rfl, _, SqL.of L4⟩, _, rfl, l, _, _, rfl, rfl, L4, ?_, bs ++ [b], _, _, rfl, h4.upd lp lq, fun a o na e => upB (ne_of_none e hl) (O4 a o na e), ?_, ?_, ?_, ?_⟩
        · rw [List.length_map]
          show _ < 2 ^ 24
          omega
        · rw [upd_same, List.map_append]
          rfl
        · refine List.nodup_append.mpr ⟨nd, by simp, fun a ha b' hb' z => nb ?_⟩
          rw [List.mem_singleton.mp hb'] at z
          exact z ▸ ha
        · intro a ha
          rcases List.mem_append.mp ha with ha | ha
          · exact hb a ha
          · rw [List.mem_singleton.mp ha]
            omega
        · rw [List.length_append]
          simp only [List.length_cons, List.length_nil]
          omega
    · rintro σ H3 ⟨bs, x3, x4, rfl, h3, O3, L3, nd, hb, hl3⟩
      exact ⟨_, rfl, k l H3 bs O3 h3 hl L3 nd hb (by omega)⟩
end
end K59

set_option maxRecDepth 100000
set_option maxHeartbeats 4000000
namespace K59
open PySem PySem.Spec PyProof.Rows L2 Kw
/-- list(xs) -/
def rListOf (K : PySem.W.Frag) : List V → Hp → VK → Prop := fun xs H Q => ∃ p ys, xs = [.ref p] ∧ (SqL K H p ys ∨ SqT K H p ys) ∧ ∀ l, H l = none → Q (.ref l) (upd H l (.lst ys))
theorem call_lst {X : Cx} : CallR X (.type "list") (rListOf X.K) := call_list_of
end K59

set_option maxRecDepth 100000
set_option maxHeartbeats 4000000
namespace Kw
open PySem PySem.Spec PyProof.Rows L2
/-- an empty set, as it is laid -/
abbrev mtS (w : World) : Obj := { cls := .type "set", dict := none, data := .set #[] 0 (.fresh 0 0 (!w.params.followText "set-order")) }
section
variable {P : Program} {w : World} {A : Around} {E : Value → Shared → Prop}
set_option maxHeartbeats 8000000 in
/-- set(l), l a list of whole numbers, doubles among them -/
theorem set_of_list {s : Shared} {l : Addr} {items : Array Value} (ns : List Int) {Q : Value → Shared → Prop} (hh : A.handled = none) (hl : s.heap.IsList l items) (hit : IntsAre items.toList ns) (room : ns.length + 1 < scanBound)
    (fin : ∀ (G : Heap) (tk c : Nat), SetR w G s.heap.objs.size (fun j => decide (j ∈ ns)) c → c ≤ ns.length → (∀ b o, s.heap.get? b = some o → G.get? b = some o) → Q (.ref s.heap.objs.size) { s with heap := G, toks := tk }) :
    wpAny (model P w) A (call (.type "set") [.ref l]) Q E s := by
  have size_eq : items.size = ns.length := Array.length_toList.symm.trans (IntsAre.length hit)
  have each : ∀ (i : Nat) (v : Value), items[i]? = some v → ∃ k t, ns[i]? = some k ∧ v = .int k t := by
    intro i v hv
    have lt : i < ns.length := by
      rw [← size_eq]
      exact (Array.getElem?_eq_some_iff.mp hv).1
    obtain ⟨t, e⟩ := IntsAre.int_at hit i v (by rw [Array.getElem?_toList]; exact hv)
    rw [List.getD_eq_getElem?_getD, List.getElem?_eq_getElem lt] at e
    exact ⟨ns[i], t, List.getElem?_eq_getElem lt, e⟩
  have made := F.called_set.made
  have sub := F.called_set.sub
  obtain ⟨_, _, mro⟩ := F.called_set.mro
  refine wpAny_call (codeAny_of_tree (wpAny_pure ⟨Code.quiet_builtin _ (by decide +kernel), codeAny_builtin F.entry_type_call ?_⟩))
  rw [Around.under_plain (weight_type_call_type "set" [.ref l] []) rfl]
  have nt := F.called_set.notType
  have cc := F.called_set.canCreate
  have tc := F.typeCall_set_1 (.ref l)
  repeat (any_goals (first | assumption | wp_step))
  refine codeAny_mono (code_set_led1 (.ref l) (E := E) (Q₁ := fun obj t => obj = .ref s.heap.objs.size ∧ t = { s with heap := s.heap.push (mtS w) }) ⟨rfl, rfl⟩) fun r t hr => ?_
  match r, hr with
  | .error e, hr => exact hr
  | .ok .next, hr => exact hr.elim
  | .ok .brk, hr => exact hr.elim
  | .ok .cont, hr => exact hr.elim
  | .ok (.ret obj), hr =>
    obtain ⟨rfl, rfl⟩ := hr
    have at0 : (s.heap.push (mtS w)).get? s.heap.objs.size = some (mtS w) := Heap.get?_push_size _ rfl
    have ty0 : Shared.TypeIs { s with heap := s.heap.push (mtS w) } (.ref s.heap.objs.size) "set" := ⟨_, at0, rfl⟩
    have look := F.called_set.init.lookup
    have bind := F.called_set.init.bind (.ref s.heap.objs.size)
    repeat (any_goals (first | assumption | wp_step))
    refine codeAny_mono (codeAny_call_builtin (R := wants (fun r t => r = .none ∧ ∃ G tk c, t = { s with heap := G, toks := tk } ∧ SetR w G s.heap.objs.size (fun j => decide (j ∈ ns)) c ∧ c ≤ ns.length ∧ ∀ b o, s.heap.get? b = some o → G.get? b = some o) E)
      F.called_set.init.plain F.entry_set_init (check_set_init_1 ty0 ?_)) fun r t hr => ?_
    · have lt0 : l < s.heap.objs.size := by
        obtain ⟨_, e, _⟩ := hl
        exact Heap.lt_size e
      have hl1 : (s.heap.push (mtS w)).IsList l items := hl.push _
      obtain ⟨⟨ocls, odict, odata, oslots⟩, hol, hcl, nl, hdl⟩ := hl
      simp only at hcl hdl
      subst hcl hdl
      have hol1 := Heap.get?_push_of_some (mtS w) hol
      have sub1 := F.sub_list_set
      have sub2 := F.sub_list_frozenset
      have nd : (Value.type "list" == Value.type "dict") = false := by decide
      unfold Builtin.«set.__init__» noKeywords Builtin.Frozenset.updateFrom
      generalize hPI : pyIter = PI
      wp_walk
      subst hPI
      refine wpAny_pyIter_list hl1 (wpAny_bind (wpAny_runValue ?_))
      have h3 : A.in1.in1.in1.handled = none := by simp [hh]
      have sz1 : (s.heap.push (mtS w)).objs.size = s.heap.objs.size + 1 := Heap.size_push ..
      have nIt : l ≠ (s.heap.push (mtS w)).objs.size := by
        rw [sz1]
        exact Nat.ne_of_lt (Nat.lt_succ_of_lt lt0)
      have nSet : s.heap.objs.size ∉ [(s.heap.push (mtS w)).objs.size, l] := by
        rw [sz1]
        intro z
        rcases List.mem_cons.mp z with z | z
        · exact absurd z (Nat.ne_of_lt (Nat.lt_succ_self _))
        · exact absurd (List.mem_singleton.mp z) (Nat.ne_of_gt lt0)
      have W := (Walks.list (prog := P) (w := w) h3 (s.heap.push (mtS w)).objs.size l nIt items).toS
      refine set_update_ints W s.heap.objs.size nSet ns size_eq room each (items.size - 0) 0 _ (by omega) (Nat.zero_le _) ⟨⟨_, Heap.get?_push_size _ rfl, rfl, rfl⟩, hl1.push _⟩ ⟨0, Nat.le_refl 0, setR_new_at (Heap.get?_push_of_some _ at0)⟩ ?_
      rintro ⟨G, g, d, tk, os⟩ c moved hc hS
      obtain rfl : g = s.gens := moved.gens
      obtain rfl : d = s.drawn := moved.drawn
      obtain rfl : os = s.os := moved.os
      refine wpAny_pure (wpAny_pure ⟨rfl, G, tk, c, rfl, hS, size_eq ▸ hc, fun b o e => ?_⟩)
      have ltb : b < s.heap.objs.size := Heap.lt_size e
      refine moved.heap b o (fun z => ?_) (Heap.get?_push_of_some _ (Heap.get?_push_of_some _ e))
      rcases List.mem_cons.mp z with z | z
      · exact absurd z (Nat.ne_of_lt ltb)
      · have z' := List.mem_singleton.mp z
        rw [sz1] at z'
        exact absurd z' (Nat.ne_of_lt (Nat.lt_succ_of_lt ltb))
    · match r, hr with
      | .error e, hr => exact hr
      | .ok .next, hr => exact hr.elim
      | .ok .brk, hr => exact hr.elim
      | .ok .cont, hr => exact hr.elim
      | .ok (.ret r), hr =>
        obtain ⟨rfl, G, tk, c, rfl, hS, hc, kept⟩ := hr
        repeat (any_goals (first | assumption | wp_step))
        exact fin _ _ _ hS hc kept
end
/-- set(xs), xs a list or a tuple of whole numbers -/
def rSetSI (K : PySem.W.Frag) (w : World) : List V → Hp → VK → Prop := fun vs H Q => ∃ (l : Addr) (ns : List Int), vs = [.ref l] ∧ (SqL K H l (ns.map V.int) ∨ SqT K H l (ns.map V.int)) ∧ ns.length ≤ 4000 ∧
  ∀ (p : Addr) (c : Nat), H p = none → c ≤ ns.length → Q (.ref p) (upd H p (SetO w p (fun j => decide (j ∈ ns)) c))
theorem ints_of_vals : ∀ {ns : List Int} {us : List Value}, Vals (ns.map V.int) us → IntsAre us ns
  | [], _, .nil => .nil
  | n :: r, _, .cons h t => by
    obtain ⟨k, e⟩ := h
    rw [e]
    exact .cons n k (ints_of_vals t)
theorem call_setSI {X : Cx} (hc : X.calm = true) : CallR X (.type "set") (rSetSI X.K X.w) := by
  intro pins s σ H vs us Q I r h
  obtain ⟨l, ns, rfl, hq, h4, q⟩ := h
  rw [Vals.ref1 r]
  have room : ns.length + 1 < scanBound := by
    unfold scanBound
    omega
  have fin : ∀ (G : Heap) (tk c : Nat), SetR X.w G s.heap.objs.size (fun j => decide (j ∈ ns)) c → c ≤ ns.length → (∀ b o, s.heap.get? b = some o → G.get? b = some o) → EP X pins σ Q (.ref s.heap.objs.size) { s with heap := G, toks := tk } := fun G tk c hS hcl k =>
    ⟨.ref s.heap.objs.size, _, I.laid (t' := tk) k (Nat.le_refl _) (setO_new hS), rfl, q _ c (I.hok.fresh (Nat.le_refl _)) hcl⟩
  rcases hq with hq | hq
  · obtain ⟨its, rv, pl, hz⟩ := I.list hq
    exact set_of_list ns (I.ok.hd hc) pl.isList (by simpa using ints_of_vals rv) room fin
  · obtain ⟨its, rv, pl, hz⟩ := I.tuple hq
    exact call_set_tupI ns (I.ok.hd hc) pl (by simpa using ints_of_vals rv) room fin
end Kw

set_option maxRecDepth 100000
set_option maxHeartbeats 4000000
namespace K59
open PySem PySem.Spec PyProof.Rows L2 Kw
/-- rows (bases, fields, methods) of a law's own -/
def RowsAt (H : Hp) : List V → List (List Nat) → Prop := Paired fun v bs => ∃ t b g m, v = .ref t ∧ H t = some (.tup [.ref b, g, m]) ∧ SeqAt H b (bs.map natV)
theorem RowsAt.same {H H' : Hp} (s : Same H H') : ∀ {vs : List V} {ls : List (List Nat)}, RowsAt H vs ls → RowsAt H' vs ls
  | [], [], _ => .nil
  | _ :: _, _ :: _, .cons ⟨t, b, g, m, e, h1, h2⟩ r => .cons ⟨t, b, g, m, e, s _ _ h1, h2.same s⟩ (RowsAt.same s r)
theorem RowsAt.get {H : Hp} : ∀ {vs : List V} {ls : List (List Nat)} {i : Nat} {l : List Nat}, RowsAt H vs ls → ls[i]? = some l → ∃ t b g m, vs[i]? = some (.ref t) ∧ H t = some (.tup [.ref b, g, m]) ∧ SeqAt H b (l.map natV)
  | [], [], _, _, _, h => by simp at h
  | _ :: _, _ :: _, 0, _, .cons ⟨t, b, g, m, e1, h⟩ _, e => by
    obtain rfl := Option.some.inj e
    exact ⟨t, b, g, m, by rw [e1]; rfl, h⟩
  | _ :: _, _ :: _, i + 1, _, .cons _ r, e => RowsAt.get (i := i) r e
def ListsAt (H : Hp) : List V → List (List Nat) → Prop := Paired fun v l => ∃ t, v = .ref t ∧ H t = some (.lst (l.map natV))
theorem ListsAt.mono {H H' : Hp} {R : Addr} (k : ∀ b o, b ≠ R → H b = some o → H' b = some o) : ∀ {vs : List V} {ls : List (List Nat)}, (∀ v ∈ vs, v ≠ .ref R) → ListsAt H vs ls → ListsAt H' vs ls
  | [], [], _, _ => .nil
  | v :: _, _ :: _, n, .cons ⟨t, e, h⟩ r => .cons ⟨t, e, k _ _ (fun z => n v List.mem_cons_self (by rw [e, z])) h⟩ (ListsAt.mono k (fun v hv => n v (List.mem_cons_of_mem _ hv)) r)
theorem ListsAt.get {H : Hp} : ∀ {vs : List V} {ls : List (List Nat)} {i : Nat} {l : List Nat}, ListsAt H vs ls → ls[i]? = some l → ∃ t, vs[i]? = some (.ref t) ∧ H t = some (.lst (l.map natV))
  | [], [], _, _, _, h => by simp at h
  | _ :: _, _ :: _, 0, _, .cons ⟨t, e1, h⟩ _, e => by
    obtain rfl := Option.some.inj e
    exact ⟨t, by rw [e1]; rfl, h⟩
  | _ :: _, _ :: _, i + 1, _, .cons _ r, e => ListsAt.get (i := i) r e
theorem ListsAt.app {H : Hp} : ∀ {vs us : List V} {ls ms : List (List Nat)}, ListsAt H vs ls → ListsAt H us ms → ListsAt H (vs ++ us) (ls ++ ms)
  | [], _, [], _, _, h => h
  | _ :: _, _, _ :: _, _, .cons h r, s => .cons h (ListsAt.app r s)
theorem ListsAt.len {H : Hp} {vs : List V} {ls : List (List Nat)} (h : ListsAt H vs ls) : vs.length = ls.length := Paired.length h
/-- ascending lists with the same things in them -/
theorem asc_one {a : List Int} {b : List Nat} (ha : a.Pairwise (· < ·)) (hb : b.Pairwise (· < ·)) (hm : ∀ k : Int, k ∈ a ↔ ∃ n : Nat, n ∈ b ∧ k = (n : Int)) : a.map V.int = b.map natV := by
  have hb2 : (b.map fun (n : Nat) => (n : Int)).Pairwise (· < ·) := List.pairwise_map.mpr (hb.imp fun h => by omega)
  have p : a.Perm (b.map fun (n : Nat) => (n : Int)) := (List.perm_ext_iff_of_nodup (ha.imp fun h => Int.ne_of_lt h) (hb2.imp fun h => Int.ne_of_lt h)).mpr fun k => by
    rw [hm k, List.mem_map]
    exact ⟨fun ⟨n, h, e⟩ => ⟨n, h, e.symm⟩, fun ⟨n, h, e⟩ => ⟨n, h, e.symm⟩⟩
  have e : a = b.map fun (n : Nat) => (n : Int) := p.eq_of_pairwise (fun x y _ _ h1 h2 => by omega) ha hb2
  rw [e, List.map_map]
  rfl
section
variable {P : Program} {w : World} {K : PySem.W.Frag} {mg : Str → Option Value} {base : Heap} {f : Addr} {fd : FuncData}
/-- over a list or a tuple that stands -/
theorem for_seqS {a : Addr} {xs : List V} {g : TG} {tb : TS} {D : Ends} {σ : L2.St} {H H0 : Hp} {j : Nat} (hj : σ[j]? = some (some (.ref a))) (hA : SeqAt H0 a xs) (s0 : Same H0 H) (Pv : Nat → L2.St → Hp → Prop) (h0 : Pv 0 σ H) (keep : ∀ i σ' H', Pv i σ' H' → Same H0 H')
    (hs : ∀ i x σ H, xs[i]? = some x → Pv i σ H → g x σ H fun σ2 H2 => tb { D with nx := Pv (i + 1), ct := Pv (i + 1), bk := D.nx } σ2 H2) (hd : ∀ σ H, Pv xs.length σ H → D.nx σ H) :
    tFor (fun σ H R => iList K (tVar j) σ H R ∨ iTup K (tVar j) σ H R) g tb D σ H := by
  rcases hA with hA | hA
  · exact .inl ⟨_, hj, a, rfl, ⟨_, SqL.of (s0 _ _ hA)⟩, for_list (K := K) (a := a) (xs := xs) Pv h0 (fun i σ H' _ h => SqL.of (keep i σ H' h _ _ hA)) hs hd⟩
  · exact .inr ⟨_, hj, a, rfl, ⟨_, SqT.of (s0 _ _ hA)⟩, for_tup (K := K) (a := a) (xs := xs) Pv h0 (fun i σ H' _ h => SqT.of (keep i σ H' h _ _ hA)) hs hd⟩
def spLElders : Sp := fun vs H Q _ => ∃ (a : Addr) (ws : List V) (bs : List (List Nat)), vs = [.ref a] ∧ H a = some (.lst ws) ∧ RowsAt H ws bs ∧ validB bs ∧ bs.length ≤ 64 ∧ (∀ row ∈ bs, row.length * bs.length < 64) ∧
  ∀ H' l us, Same H H' → H l = none → H' l = some (.lst us) → (∀ v ∈ us, v ≠ .ref l) → ListsAt H' us (elders bs) → Q (.ref l) H'
theorem sc_lelders : FnScope ["_law_rows", "_law_found", "_law_bases_here", "_law_fields", "_law_methods_here", "_law_mine", "_law_base"] ["_law_rows"] (defScope (top 42)) := ⟨rfl, rfl, rfl, by decide +kernel, rfl, by decide +kernel, by decide +kernel⟩
theorem ok_lelders (F : FnP K "_law_elders" 42 f fd) (B : Fr mg) : FnOk P w K mg base CX0 1 f fd ["_law_rows"] spLElders := by
  refine F.ok sc_lelders (fun vs H Q E h => ?_) (fun cdv A outer s H vs Q E hr h => ?_)
  · obtain ⟨a, ws, bs, rfl, _⟩ := h
    rfl
  · obtain ⟨a, ws, bs, rfl, hA, hT, hv, h64, hr64, k⟩ := h
    refine ⟨_, PSs.nox (pss_cons (ps_set (i := 1) sc_lelders.nd rfl (Or.inl rfl) (pe_lst pa_nil))
      (pss_cons (ps_for PassesOwn.never rfl (pi_list (pv 0)) (pg_tup (by rfl) (pgs_cons (pg_name (i := 2) sc_lelders.nd rfl (Or.inl rfl)) (pgs_cons (pg_name (i := 3) sc_lelders.nd rfl (Or.inl rfl)) (pgs_cons (pg_name (i := 4) sc_lelders.nd rfl (Or.inl rfl)) pgs_nil))))
        (pss_cons (ps_set (i := 5) sc_lelders.nd rfl (Or.inl rfl) (pe_lst pa_nil))
        (pss_cons (ps_for PassesOwn.never rfl (pi_or (pi_list (pv 2)) (pi_tup (pv 2))) (pg_name (i := 6) sc_lelders.nd rfl (Or.inl rfl))
          (pss_one (ps_set (i := 5) sc_lelders.nd rfl (Or.inl rfl) (pe_op op_cat (pe_op op_cat (pv 5) (pe_lst (pa_cons (pv 6) pa_nil))) (pe_ix ix_list (pv 1) (pv 6) (fun _ _ => rfl))))))
        (pss_one (ps_expr (pe_bm PySem.F.plainAttrs_list PySem.F.slot_list_append PySem.F.type_list_append mt_append (pv 1) (pa_cons (pe_callB (cr_sortedSet rfl) (by rfl) B.sorted (by decide +kernel) (pa_cons (pe_callTy (T := "set") (r := rSetSI K w) (call_setSI (X := _) rfl) (by rfl) B.set (by decide +kernel) (pa_cons (pv 5) pa_nil)) pa_nil)) pa_nil)))))))
      (pss_one (ps_ret (pv 1))))), ?_⟩
    refine ⟨by decide, fun R hR => ?_⟩
    refine ⟨_, rfl, a, rfl, ⟨_, SqL.of (same_new hR _ _ hA)⟩, for_list (K := K) (a := a) (xs := ws) (fun i σ H' => Same H H' ∧ ∃ us x2 x3 x4 x5 x6, σ = [some (.ref a), some (.ref R), x2, x3, x4, x5, x6] ∧ H' R = some (.lst us) ∧ (∀ v ∈ us, v ≠ .ref R) ∧ ListsAt H' us (elders (bs.take i)))
      ⟨same_new hR, [], none, none, none, none, none, rfl, upd_same, (fun v hv => by cases hv), .nil⟩ (fun i σ H' _ h => SqL.of (h.1 _ _ hA)) ?_ ?_⟩
    · rintro i y σ H' hi ⟨sH, us, x2, x3, x4, x5, x6, rfl, hRu, hne, hU⟩
      have hbl : ws.length = bs.length := Paired.length hT
      have hil : i < bs.length := by
        rw [← hbl]
        exact (List.getElem?_eq_some_iff.mp hi).1
      obtain ⟨row, hrow⟩ : ∃ row, bs[i]? = some row := ⟨_, List.getElem?_eq_getElem hil⟩
      obtain ⟨t, b, g, m, et, ht, hb⟩ := hT.get hrow
      obtain rfl : V.ref t = y := Option.some.inj (et.symm.trans hi)
      have hE : (elders (bs.take i)).length = i := by rw [elders_len, List.length_take, Nat.min_eq_left (Nat.le_of_lt hil)]
      have hlt : ∀ c ∈ row, c < i := hv i row hrow
      have hr6 : row.length * bs.length < 64 := hr64 row (List.mem_of_getElem? hrow)
      have hus : us.length = i := hU.len.trans hE
      refine ⟨t, _, rfl, SqT.of (sH _ _ ht), rfl, _, _, rfl, _, _, rfl, _, _, rfl, rfl, ?_⟩
      refine ⟨by decide, fun M hM => ?_⟩
      have sM : Same H' (upd H' M (.lst [])) := same_new hM
      refine for_seqS (K := K) (a := b) (xs := row.map natV) rfl hb (sH.trans sM) (fun j σ H3 => Same H' H3 ∧ ∃ M x6 mi, σ = [some (.ref a), some (.ref R), some (.ref b), some g, some m, some (.ref M), x6] ∧ H3 M = some (.lst (mi.map natV)) ∧ mi.length ≤ j * bs.length ∧ ∀ x, x ∈ mi ↔ ∃ c ∈ row.take j, x = c ∨ x ∈ (elders (bs.take i)).getD c [])
        ⟨sM, M, x6, [], rfl, upd_same, Nat.zero_le _, fun x => by simp⟩ (fun j σ H3 h => sH.trans h.1) ?_ ?_
      · rintro j y σ H3 hj ⟨s3, M, x6, mi, rfl, hMi, hml, hmem⟩
        rw [List.getElem?_map] at hj
        obtain ⟨c, hc, rfl⟩ := Option.map_eq_some_iff.mp hj
        have hjl : j < row.length := (List.getElem?_eq_some_iff.mp hc).1
        have hci : c < i := hlt c (List.mem_of_getElem? hc)
        obtain ⟨l, hl⟩ : ∃ l, (elders (bs.take i))[c]? = some l := ⟨_, List.getElem?_eq_getElem (by rw [hE]; exact hci)⟩
        have hgd : (elders (bs.take i)).getD c [] = l := by
          rw [List.getD_eq_getElem?_getD, hl]
          rfl
        have hll : l.length + 1 ≤ bs.length := by
          have := elders_len_row _ _ _ hl
          rw [List.length_take] at this
          omega
        have hmle : mi.length + (1 + l.length) ≤ (j + 1) * bs.length := by
          rw [Nat.succ_mul]
          omega
        have hbig : (j + 1) * bs.length < 64 := Nat.lt_of_le_of_lt (Nat.mul_le_mul_right _ hjl) hr6
        obtain ⟨q, eq, hq⟩ := hU.get hl
        refine ⟨_, rfl, _, rfl, (by show 1 ≤ 2 ^ 24; decide), fun L hL => ?_⟩
        have sL := same_new (o := .lst [natV c]) hL
        refine ⟨M, L, _, _, rfl, rfl, sL _ _ hMi, upd_same, ?_, fun N1 hN1 => ?_⟩
        · rw [List.length_map]
          show mi.length + 1 ≤ 2 ^ 24
          omega
        have s1 := same_new (o := .lst (mi.map natV ++ [natV c])) hN1
        have sA : Same H' (upd (upd H3 L (.lst [natV c])) N1 (.lst (mi.map natV ++ [natV c]))) := (s3.trans sL).trans s1
        refine ⟨_, rfl, _, rfl, R, us, _, _, rfl, rfl, SqL.of (sA _ _ hRu), atI_nat eq, ?_⟩
        refine ⟨N1, q, _, _, rfl, rfl, upd_same, sA _ _ hq, ?_, fun N2 hN2 => ?_⟩
        · rw [List.length_append, List.length_map, List.length_map]
          show mi.length + 1 + l.length ≤ 2 ^ 24
          omega
        · refine ⟨Same.trans sA (same_new hN2), N2, _, mi ++ [c] ++ l, rfl, ?_, ?_, fun x => ?_⟩
          · rw [upd_same, List.map_append, List.map_append]
            rfl
          · rw [List.length_append, List.length_append]
            show mi.length + 1 + l.length ≤ _
            omega
          · rw [List.take_add_one, hc, Option.toList_some, List.mem_append, List.mem_append, hmem, List.mem_singleton]
            constructor
            · rintro ((⟨d, hd, h⟩ | h) | h)
              · exact ⟨d, List.mem_append_left _ hd, h⟩
              · exact ⟨c, List.mem_append_right _ (List.mem_singleton.mpr rfl), .inl h⟩
              · exact ⟨c, List.mem_append_right _ (List.mem_singleton.mpr rfl), .inr (by rw [hgd]; exact h)⟩
            · rintro ⟨d, hd, h⟩
              rcases List.mem_append.mp hd with hd | hd
              · exact .inl (.inl ⟨d, hd, h⟩)
              · obtain rfl := List.mem_singleton.mp hd
                rcases h with h | h
                · exact .inl (.inr h)
                · rw [hgd] at h
                  exact .inr h
      · rintro σ H3 ⟨s3, M, x6, mi, rfl, hMi, hml, hmem⟩
        rw [List.length_map] at hml
        rw [List.length_map, List.take_length] at hmem
        refine ⟨_, rfl, .inl ⟨rfl, _, SqL.of (s3 _ _ hRu)⟩, _, rfl, M, mi.map (fun (n : Nat) => (n : Int)), rfl, .inl ?_, ?_, fun S c hS hc => ?_⟩
        · rw [List.map_map]
          exact SqL.of hMi
        · rw [List.length_map]
          omega
        · rw [List.length_map] at hc
          have sS := same_new (o := SetO w S (fun j => decide (j ∈ mi.map (fun (n : Nat) => (n : Int)))) c) hS
          refine ⟨S, _, c, rfl, upd_same, by omega, fun ns L asc hns hlen hL => ?_⟩
          have sL := same_new (o := .lst (ns.map V.int)) hL
          have sA : Same H' (upd (upd H3 S (SetO w S (fun j => decide (j ∈ mi.map (fun (n : Nat) => (n : Int)))) c)) L (.lst (ns.map V.int))) := (s3.trans sS).trans sL
          have ens : ns.map V.int = (elStep (elders (bs.take i)) row).map natV := asc_one asc (elStep_up _ _) fun k => by
            rw [hns k, decide_eq_true_iff, List.mem_map]
            constructor
            · rintro ⟨n, hn, e⟩
              exact ⟨n, (elStep_mem (fun b hb => by rw [hE]; exact hlt b hb) (elders_lt _) n).mpr ((hmem n).mp hn), e.symm⟩
            · rintro ⟨n, hn, e⟩
              exact ⟨n, (hmem n).mpr ((elStep_mem (fun b hb => by rw [hE]; exact hlt b hb) (elders_lt _) n).mp hn), e.symm⟩
          have neL : L ≠ R := fun z => by
            have y := (Same.trans s3 sS) _ _ hRu
            rw [← z, hL] at y
            cases y
          refine ⟨R, us, _, rfl, rfl, sA _ _ hRu, by rw [hus]; show i < 2 ^ 24; omega, same_upd (sH.trans sA) hR, us ++ [.ref L], _, _, _, _, _, rfl, upd_same, ?_, ?_⟩
          · intro v hv
            rcases List.mem_append.mp hv with hv | hv
            · exact hne v hv
            · rw [List.mem_singleton.mp hv]
              exact fun z => neL (V.ref.inj z)
          · rw [elders_more hrow]
            refine (ListsAt.mono (R := R) (fun b o hb e => upB hb (sA _ _ e)) hne hU).app (.cons ⟨L, rfl, ?_⟩ .nil)
            rw [← ens]
            exact upB neL upd_same
    · rintro σ H' ⟨sH, us, x2, x3, x4, x5, x6, rfl, hRu, hne, hU⟩
      have hbl : ws.length = bs.length := Paired.length hT
      rw [hbl, List.take_length] at hU
      exact ⟨_, rfl, k H' R us sH hR hRu hne hU⟩
end
end K59

set_option maxRecDepth 100000
set_option maxHeartbeats 4000000
namespace K59
open PySem PySem.Spec PyProof.Rows L2 Kw
section
variable {P : Program} {w : World} {K : PySem.W.Frag} {mg : Str → Option Value} {base : Heap} {f fT fM : Addr} {fd fdT fdM : FuncData}
def spMethods : Sp := fun vs H Q _ => ∃ (p q : Addr), vs = [.ref p] ∧ HandAt H p q ∧
  ∀ l H' (ms : List Nat), Oth p H H' → HandAt H' p q → H l = none → H' l = some (.lst (ms.map natV)) → ms.Pairwise (· < ·) → (∀ m ∈ ms, m < 6) → ms.length ≤ 3 → Q (.ref l) H'
theorem sc_methods : FnScope ["_law_hand_here", "_law_found", "_law_step"] ["_law_hand_here"] (defScope (top 39)) := ⟨rfl, rfl, rfl, by decide +kernel, rfl, by decide +kernel, by decide +kernel⟩
theorem ok_methods (F : FnP K "_law_methods" 39 f fd) (B : Fr mg) (FT : FnP K "_law_take" 37 fT fdT) (mT : mg "_law_take" = some (.ref fT)) (FM : FnP K "_law_mixed" 36 fM fdM) (mM : mg "_law_mixed" = some (.ref fM)) :
    FnOk P w K mg base CX0 3 f fd ["_law_hand_here"] spMethods := by
  have GT : FnOk P w K mg base CX0 2 fT fdT ["_law_hand_here", "_law_many"] spTake := ok_take FT FM mM B.int B.len
  have bT : L2.Binds K fdT ["_law_hand_here", "_law_many"] [] := FT.bindsN fun _ _ _ _ _ _ us hl => match us, hl with | [_, _], _ => rfl
  refine F.ok sc_methods (fun vs H Q E h => ?_) (fun cdv A outer s H vs Q E hr h => ?_)
  · obtain ⟨p, q, rfl, _⟩ := h
    rfl
  · obtain ⟨p, q, rfl, hh, k⟩ := h
    refine ⟨_, PSs.nox (pss_cons (ps_set (i := 1) sc_methods.nd rfl (Or.inl rfl) (pe_lst pa_nil))
      (pss_cons (ps_for PassesOwn.never rfl (pi_range1 (by rfl) B.range (pa_cons (pe_ix ix_tup (pe_tup (pa_cons pe_int (pa_cons pe_int (pa_cons pe_int (pa_cons pe_int (pa_cons pe_int (pa_cons pe_int pa_nil))))))) (pe_call GT hr (by rfl) mT FT.kp bT .nil pass0 (pa_cons (pv 0) (pa_cons pe_int pa_nil))) (fun _ _ => rfl)) pa_nil)) (pg_name (i := 2) sc_methods.nd rfl (Or.inl rfl))
        (pss_one (ps_expr (pe_bm PySem.F.plainAttrs_list PySem.F.slot_list_append PySem.F.type_list_append mt_append (pv 1) (pa_cons (pe_call GT hr (by rfl) mT FT.kp bT .nil pass0 (pa_cons (pv 0) (pa_cons pe_int pa_nil))) pa_nil)))))
      (pss_one (ps_ret (pe_callB (cr_sortedSet rfl) (by rfl) B.sorted (by decide +kernel) (pa_cons (pe_callTy (T := "set") (r := rSetSI K w) (call_setSI (X := _) rfl) (by rfl) B.set (by decide +kernel) (pa_cons (pv 1) pa_nil)) pa_nil)))))), ?_⟩
    refine ⟨by decide, fun l hl => ?_⟩
    obtain ⟨lp, lq⟩ := hh.ne hl
    have h1 : HandAt (upd H l (.lst [])) p q := hh.upd lp lq
    refine ⟨by (show 6 ≤ sizeLine); decide, fun t ht => ?_⟩
    obtain ⟨tp, tq⟩ := h1.ne ht
    have tl : t ≠ l := fun z => by
      rw [z, upd_same] at ht
      cases ht
    refine ⟨_, rfl, p, q, 6, rfl, by decide, by decide, h1.upd tp tq, fun r H2 r0 r1 h2 e2 => ?_⟩
    obtain ⟨v, hv, hm⟩ := tab_at (tab := [0, 1, 0, 2, 1, 3]) r0 r1
    have hv3 : 0 ≤ v ∧ v ≤ 3 := (by decide : ∀ v ∈ ([0, 1, 0, 2, 1, 3] : List Int), 0 ≤ v ∧ v ≤ 3) v hm
    have T2 : H2 t = some (.tup (([0, 1, 0, 2, 1, 3] : List Int).map V.int)) := by
      rw [e2 t tp]
      exact upd_same
    have O2 : Oth p H H2 := fun b o nb e => by
      rw [e2 b nb]
      exact upB (ne_of_none (upB (ne_of_none e hl) e) ht) (upB (ne_of_none e hl) e)
    have L2' : H2 l = some (.lst []) := by
      rw [e2 l lp]
      exact upB tl.symm upd_same
    refine ⟨t, _, r, _, rfl, rfl, SqT.of T2, hv, v, rfl, by omega, by omega, for_range (n := v.toNat) (fun i σ H' => ∃ (ms : List Nat) (x2 : Option V), σ = [some (.ref p), some (.ref l), x2] ∧ HandAt H' p q ∧ Oth p H H' ∧ H' l = some (.lst (ms.map natV)) ∧ (∀ m ∈ ms, m < 6) ∧ ms.length = i)
      ⟨[], none, rfl, h2, O2, L2', fun b hb => (by cases hb), rfl⟩ ?_ ?_⟩
    · rintro i σ H3 hi ⟨ms, x2, rfl, h3, O3, L3, hb, hl3⟩
      refine ⟨_, rfl, .inl ⟨rfl, _, SqL.of L3⟩, _, rfl, p, q, 6, rfl, by decide, by decide, h3, fun r H4 r0 r1 h4 e4 => ?_⟩
      obtain ⟨b, rfl⟩ : ∃ b : Nat, r = (b : Int) := ⟨r.toNat, by omega⟩
      have L4 : H4 l = some (.lst (ms.map natV)) := by
        rw [e4 l lp]
        exact L3
      refine ⟨l, _, _, rfl, rfl, L4, ?_, ms ++ [b], _, rfl, h4.upd lp lq, fun a o na e => upB (ne_of_none e hl) (by rw [e4 a na]; exact O3 a o na e), ?_, ?_, ?_⟩
      · rw [List.length_map]
        show _ < 2 ^ 24
        omega
      · rw [upd_same, List.map_append]
        rfl
      · intro a ha
        rcases List.mem_append.mp ha with ha | ha
        · exact hb a ha
        · rw [List.mem_singleton.mp ha]
          omega
      · rw [List.length_append, hl3]
        rfl
    · rintro σ H3 ⟨ms, x2, rfl, h3, O3, L3, hb, hl3⟩
      refine ⟨_, rfl, l, ms.map (fun (n : Nat) => (n : Int)), rfl, .inl ?_, ?_, fun S c hS hc => ?_⟩
      · rw [List.map_map]
        exact SqL.of L3
      · rw [List.length_map]
        omega
      · rw [List.length_map] at hc
        have sS := same_new (o := SetO w S (fun j => decide (j ∈ ms.map (fun (n : Nat) => (n : Int)))) c) hS
        refine ⟨S, _, c, rfl, upd_same, by omega, fun ns L asc hns hlen hL => ?_⟩
        have sL := same_new (o := .lst (ns.map V.int)) hL
        have ens : ns.map V.int = (sortN ms).map natV := asc_one asc (List.Pairwise.filter _ List.pairwise_lt_range) fun k => by
          rw [hns k, decide_eq_true_iff, List.mem_map]
          constructor
          · rintro ⟨n, hn, e⟩
            exact ⟨n, List.mem_filter.mpr ⟨List.mem_range.mpr (hb n hn), by simpa using hn⟩, e.symm⟩
          · rintro ⟨n, hn, e⟩
            exact ⟨n, by simpa using (List.mem_filter.mp hn).2, e.symm⟩
        have nl : (sortN ms).length = c := by
          have z := congrArg List.length ens
          rw [List.length_map, List.length_map] at z
          omega
        have hLn : H L = none := by
          cases e : H L with
          | none => rfl
          | some o =>
            by_cases z : L = p
            · obtain ⟨cs, i, r, t, h1, _⟩ := h3
              have y := sS _ _ h1
              rw [← z, hL] at y
              cases y
            · have y := sS _ _ (O3 L o z e)
              rw [hL] at y
              cases y
        refine k L _ (sortN ms) ((O3.trans (Oth.of sS)).trans (Oth.of sL)) ((h3.same sS).same sL) hLn (by rw [upd_same, ens]) (List.Pairwise.filter _ List.pairwise_lt_range) (fun m hm => List.mem_range.mp (List.mem_filter.mp hm).1) (by omega)
end
end K59

set_option maxRecDepth 100000
set_option maxHeartbeats 4000000
namespace Kw
open PySem PySem.Spec PyProof.Rows L2
theorem PE.weak {X : Cx} {e : Expr} {t t' : TE} (h : PE X e t) (w : ∀ σ H Q, t' σ H Q → t σ H Q) : PE X e t' := ⟨fun pins s σ H Q I k => h.run pins s σ H Q I (w σ H Q k)⟩
theorem PA.weak {X : Cx} {e : List Expr} {t t' : TA} (h : PA X e t) (w : ∀ σ H Q, t' σ H Q → t σ H Q) : PA X e t' := ⟨fun pos pins s σ H Q I k => h.run pos pins s σ H Q I (w σ H Q k)⟩
theorem same_nw {H : Hp} {p : Addr} {o : HO} (hp : H p = none) : Same H (upd H p o) := fun b u e => by
  rw [upd_ne (ne_of_none e hp)]
  exact e
/-- lists of ints -/
def ListsI (H : Hp) : List V → List (List Int) → Prop := Paired fun v l => ∃ t, v = .ref t ∧ H t = some (.lst (l.map V.int))
theorem ListsI.same {H H' : Hp} (s : Same H H') : ∀ {vs : List V} {ls : List (List Int)}, ListsI H vs ls → ListsI H' vs ls
  | [], [], _ => .nil
  | _ :: _, _ :: _, .cons ⟨t, e, h⟩ r => .cons ⟨t, e, s _ _ h⟩ (ListsI.same s r)
theorem ListsI.get {H : Hp} : ∀ {vs : List V} {ls : List (List Int)} {i : Nat} {l : List Int}, ListsI H vs ls → ls[i]? = some l → ∃ t, vs[i]? = some (.ref t) ∧ H t = some (.lst (l.map V.int))
  | [], [], _, _, _, h => by simp at h
  | _ :: _, _ :: _, 0, _, .cons ⟨t, e1, h⟩ _, e => by
    obtain rfl := Option.some.inj e
    exact ⟨t, by rw [e1]; rfl, h⟩
  | _ :: _, _ :: _, i + 1, _, .cons _ r, e => ListsI.get (i := i) r e
def TabsI (H : Hp) : List V → List (List (List Int)) → Prop := Paired fun v lss => ∃ t us, v = .ref t ∧ H t = some (.lst us) ∧ ListsI H us lss
theorem TabsI.get {H : Hp} : ∀ {vs : List V} {ls : List (List (List Int))} {i : Nat} {l : List (List Int)}, TabsI H vs ls → ls[i]? = some l → ∃ t us, vs[i]? = some (.ref t) ∧ H t = some (.lst us) ∧ ListsI H us l
  | [], [], _, _, _, h => by simp at h
  | _ :: _, _ :: _, 0, _, .cons ⟨t, us, e1, h⟩ _, e => by
    obtain rfl := Option.some.inj e
    exact ⟨t, us, by rw [e1]; rfl, h⟩
  | _ :: _, _ :: _, i + 1, _, .cons _ r, e => TabsI.get (i := i) r e
/-- a written list of ints -/
def tIntL (ns : List Int) : TE := fun σ H Q => ∀ p, H p = none → Q (.ref p) (upd H p (.lst (ns.map V.int)))
section
variable {X : Cx} {p p1 p2 : Pos}
theorem pe_il0 : PE X (.List [] p) (tIntL []) := PE.weak (pe_lst pa_nil) fun σ H Q k => ⟨by decide, k⟩
theorem pe_il1 {a : Int} {x1} {y1 : Pos} : PE X (.List [.Constant (.int a) x1 y1] p) (tIntL [a]) := PE.weak (pe_lst (pa_cons pe_int pa_nil)) fun σ H Q k => ⟨by show 1 ≤ sizeLine; decide, k⟩
theorem pe_il2 {a b : Int} {x1 x2} {y1 y2 : Pos} : PE X (.List [.Constant (.int a) x1 y1, .Constant (.int b) x2 y2] p) (tIntL [a, b]) := PE.weak (pe_lst (pa_cons pe_int (pa_cons pe_int pa_nil))) fun σ H Q k => ⟨by show 2 ≤ sizeLine; decide, k⟩
def tLits (lss : List (List Int)) : TA := fun σ H Q => ∀ vs H', Same H H' → ListsI H' vs lss → Q vs H'
theorem pa_lits_nil : PA X [] (tLits []) := PA.weak pa_nil fun σ H Q k => k [] H (Same.refl H) .nil
theorem pa_lits {e : Expr} {es : List Expr} {ns : List Int} {lss : List (List Int)} (he : PE X e (tIntL ns)) (hr : PA X es (tLits lss)) (hs : starEach (e :: es) X.env = (false, eval e X.env) :: starEach es X.env := by rfl) : PA X (e :: es) (tLits (ns :: lss)) :=
  PA.weak (pa_cons he hr hs) fun σ H Q k q hq vs H' s h => k _ H' (Same.trans (same_nw hq) s) (.cons ⟨q, rfl, s _ _ upd_same⟩ h)
def tLit2 (lss : List (List Int)) : TE := fun σ H Q => ∀ q us H', Same H H' → H' q = some (.lst us) → ListsI H' us lss → Q (.ref q) H'
theorem pe_lit2 {es : List Expr} {lss : List (List Int)} (h : PA X es (tLits lss)) (hl : lss.length ≤ sizeLine := by decide) : PE X (.List es p) (tLit2 lss) :=
  PE.weak (pe_lst h) fun σ H Q k vs H' s hv => ⟨by rw [Paired.length hv]; exact hl, fun q hq => k q vs _ (Same.trans s (same_nw hq)) upd_same (hv.same (same_nw hq))⟩
def tLits2 (lsss : List (List (List Int))) : TA := fun σ H Q => ∀ vs H', Same H H' → TabsI H' vs lsss → Q vs H'
theorem pa_lits2_nil : PA X [] (tLits2 []) := PA.weak pa_nil fun σ H Q k => k [] H (Same.refl H) .nil
theorem pa_lits2 {e : Expr} {es : List Expr} {ns : List (List Int)} {lss : List (List (List Int))} (he : PE X e (tLit2 ns)) (hr : PA X es (tLits2 lss)) (hs : starEach (e :: es) X.env = (false, eval e X.env) :: starEach es X.env := by rfl) : PA X (e :: es) (tLits2 (ns :: lss)) :=
  PA.weak (pa_cons he hr hs) fun σ H Q k q us H1 s1 h1 h2 vs H' s h => k _ H' (Same.trans s1 s) (.cons ⟨q, us, rfl, s _ _ h1, h2.same s⟩ h)
/-- a written list of lists of lists of ints -/
def tLit3 (lsss : List (List (List Int))) : TE := fun σ H Q => ∀ q us H', Same H H' → H' q = some (.lst us) → TabsI H' us lsss → Q (.ref q) H'
theorem TabsI.same {H H' : Hp} (s : Same H H') : ∀ {vs : List V} {ls : List (List (List Int))}, TabsI H vs ls → TabsI H' vs ls
  | [], [], _ => .nil
  | _ :: _, _ :: _, .cons ⟨t, us, e, h, h2⟩ r => .cons ⟨t, us, e, s _ _ h, h2.same s⟩ (TabsI.same s r)
theorem pe_lit3 {es : List Expr} {lsss : List (List (List Int))} (h : PA X es (tLits2 lsss)) (hl : lsss.length ≤ sizeLine := by decide) : PE X (.List es p) (tLit3 lsss) :=
  PE.weak (pe_lst h) fun σ H Q k vs H' s hv => ⟨by rw [Paired.length hv]; exact hl, fun q hq => k q vs _ (Same.trans s (same_nw hq)) upd_same (hv.same (same_nw hq))⟩
end
end Kw

set_option maxRecDepth 100000
set_option maxHeartbeats 4000000
namespace K59
open PySem PySem.Spec PyProof.Rows L2 Kw
/-- tuples and lists of ints stay, but for the object at R -/
def IntsO (o : HO) : Prop := (∃ xs, o = .tup xs) ∨ ∃ ns : List Int, o = .lst (ns.map V.int)
def KeepX (R : Addr) (H H' : Hp) : Prop := ∀ b o, b ≠ R → H b = some o → IntsO o → H' b = some o
theorem KeepX.trans {R : Addr} {H H1 H2 : Hp} (a : KeepX R H H1) (b : KeepX R H1 H2) : KeepX R H H2 := fun c o n e i => b c o n (a c o n e i) i
theorem KeepX.of {R : Addr} {H H1 : Hp} (s : Same H H1) : KeepX R H H1 := fun c o _ e _ => s c o e
theorem KeepX.upd {R : Addr} {H : Hp} {o : HO} : KeepX R H (upd H R o) := fun c u n e _ => by
  rw [upd_ne n]
  exact e
theorem KeepX.oth {R p q : Addr} {H H1 : Hp} (s : Oth p H H1) (h : HandAt H p q) : KeepX R H H1 := fun c o _ e i => by
  refine s c o (fun z => ?_) e
  obtain ⟨cs, i1, r, t, h1, _⟩ := h
  rw [z, h1] at e
  have e := Option.some.inj e
  rcases i with ⟨xs, rfl⟩ | ⟨ns, rfl⟩
  · cases e
  · cases ns with
    | nil => cases e
    | cons n r =>
      injection e with e
      injection e with e _
      cases e
theorem natsI (l : List Nat) : l.map natV = (l.map fun (n : Nat) => (n : Int)).map V.int := by
  rw [List.map_map]
  rfl
theorem ints_o (l : List Nat) : IntsO (.lst (l.map natV)) := .inr ⟨l.map fun (n : Nat) => (n : Int), by rw [natsI]⟩
/-- lists of numbers, none of them at R -/
def LsN (R : Addr) (H : Hp) : List V → List (List Nat) → Prop := Paired fun v l => ∃ t, v = .ref t ∧ t ≠ R ∧ H t = some (.lst (l.map natV))
theorem LsN.keep {R : Addr} {H H' : Hp} (k : KeepX R H H') : ∀ {vs : List V} {ls : List (List Nat)}, LsN R H vs ls → LsN R H' vs ls
  | [], [], _ => .nil
  | _ :: _, _ :: _, .cons ⟨t, e, n, h⟩ r => .cons ⟨t, e, n, k _ _ n h (ints_o _)⟩ (LsN.keep k r)
theorem LsN.get {R : Addr} {H : Hp} : ∀ {vs : List V} {ls : List (List Nat)} {i : Nat} {l : List Nat}, LsN R H vs ls → ls[i]? = some l → ∃ t, vs[i]? = some (.ref t) ∧ t ≠ R ∧ H t = some (.lst (l.map natV))
  | [], [], _, _, _, h => by simp at h
  | _ :: _, _ :: _, 0, _, .cons ⟨t, e1, h⟩ _, e => by
    obtain rfl := Option.some.inj e
    exact ⟨t, by rw [e1]; rfl, h⟩
  | _ :: _, _ :: _, i + 1, _, .cons _ r, e => LsN.get (i := i) r e
theorem LsN.app {R : Addr} {H : Hp} : ∀ {vs us : List V} {ls ms : List (List Nat)}, LsN R H vs ls → LsN R H us ms → LsN R H (vs ++ us) (ls ++ ms)
  | [], _, [], _, _, h => h
  | _ :: _, _, _ :: _, _, .cons h r, s => .cons h (LsN.app r s)
theorem LsN.len {R : Addr} {H : Hp} {vs : List V} {ls : List (List Nat)} (h : LsN R H vs ls) : vs.length = ls.length := Paired.length h
theorem LsN.set {R : Addr} {H : Hp} {t : Addr} {l : List Nat} (n : t ≠ R) (h : H t = some (.lst (l.map natV))) : ∀ {vs : List V} {ls : List (List Nat)} (i : Nat), LsN R H vs ls → LsN R H (vs.set i (.ref t)) (ls.set i l)
  | [], [], _, _ => .nil
  | _ :: _, _ :: _, 0, .cons _ r => .cons ⟨t, rfl, n, h⟩ r
  | _ :: _, _ :: _, i + 1, .cons z r => .cons z (LsN.set n h i r)
theorem LsN.lists {R : Addr} {H : Hp} : ∀ {vs : List V} {ls : List (List Nat)}, LsN R H vs ls → ListsAt H vs ls
  | [], [], _ => .nil
  | _ :: _, _ :: _, .cons ⟨t, e, n, h⟩ r => .cons ⟨t, e, h⟩ (LsN.lists r)
/-- rows of bases as a law draws them -/
def BOk (bs : List (List Nat)) : Prop := ∀ (i : Nat) (row : List Nat), bs[i]? = some row → row.Nodup ∧ (∀ b ∈ row, b < i) ∧ row.length ≤ 3
theorem BOk.app {bs : List (List Nat)} {row : List Nat} (h : BOk bs) (nd : row.Nodup) (hb : ∀ b ∈ row, b < bs.length) (hl : row.length ≤ 3) : BOk (bs ++ [row]) := fun i r e => by
  by_cases q : i < bs.length
  · rw [List.getElem?_append_left q] at e
    exact h i r e
  · rw [List.getElem?_append_right (by omega)] at e
    by_cases q2 : i - bs.length = 0
    · rw [q2] at e
      obtain rfl : row = r := Option.some.inj e
      have : i = bs.length := by omega
      rw [this]
      exact ⟨nd, hb, hl⟩
    · rw [List.getElem?_eq_none (by rw [List.length_singleton]; omega)] at e
      cases e
theorem BOk.set {bs : List (List Nat)} {row : List Nat} {j : Nat} (h : BOk bs) (nd : row.Nodup) (hb : ∀ b ∈ row, b < j) (hl : row.length ≤ 3) : BOk (bs.set j row) := fun i r e => by
  rw [List.getElem?_set] at e
  by_cases q : j = i
  · rw [if_pos q] at e
    split at e
    · obtain rfl : row = r := Option.some.inj e
      rw [← q]
      exact ⟨nd, hb, hl⟩
    · cases e
  · rw [if_neg q] at e
    exact h i r e
theorem BOk.take {bs : List (List Nat)} (h : BOk bs) (n : Nat) : BOk (bs.take n) := fun i r e => by
  rw [List.getElem?_take] at e
  split at e
  · exact h i r e
  · cases e
theorem oth_free {p D : Addr} {H H1 : Hp} (s : Oth p H H1) (n : D ≠ p) (h : H1 D = none) : H D = none := by
  cases e : H D with
  | none => rfl
  | some o =>
    rw [s D o n e] at h
    cases h
theorem Oth.take {p : Addr} {H H1 : Hp} (e2 : ∀ b, b ≠ p → H1 b = H b) : Oth p H H1 := fun b o nb e => (e2 b nb).trans e
/-- written again at a place that was free -/
theorem Oth.updN {p D : Addr} {H H1 : Hp} {o : HO} (s : Oth p H H1) (hD : H D = none) : Oth p H (L2.upd H1 D o) := fun b u nb e => upB (ne_of_none e hD) (s b u nb e)
end K59

set_option maxRecDepth 100000
set_option maxHeartbeats 8000000
namespace K59
open PySem PySem.Spec PyProof.Rows L2 Kw
def shapeTab : List (List (List Nat)) := [[[], [], [0, 1], [], [1, 3], [3, 0], [2, 4]], [[], [], [], [0, 1], [1, 2], [2, 0], [3, 4], [5]], [[], [0], [0], [2, 1], [0], [4, 2], [1, 4], [3, 4]], [[], [0], [0], [0], [1, 2], [2, 3], [3, 1], [4, 3]], [[], [0], [0], [1, 2], [0], [3, 4], [4], [5, 6]], [[], [], [0, 1], [], [2, 3], [0], [5, 3], [4]]]
def bokB (bs : List (List Nat)) : Bool := (List.range bs.length).all fun i => decide (bs.getD i []).Nodup && ((bs.getD i []).all (fun b => decide (b < i)) && decide ((bs.getD i []).length ≤ 3))
theorem bokB_ok {bs : List (List Nat)} (h : bokB bs = true) : BOk bs := fun i r e => by
  have hi : i < bs.length := (List.getElem?_eq_some_iff.mp e).1
  have z := List.all_eq_true.mp h i (List.mem_range.mpr hi)
  rw [List.getD_eq_getElem?_getD, e, Option.getD_some] at z
  simp only [Bool.and_eq_true, decide_eq_true_eq, List.all_eq_true] at z
  exact ⟨z.1, z.2.1, z.2.2⟩
theorem shapeTab_ok : ∀ bs ∈ shapeTab, BOk bs := fun bs h => bokB_ok ((by decide : ∀ bs ∈ shapeTab, bokB bs = true) bs h)
theorem ixN_at {n j : Nat} (hj : j < n) : ixN n (j : Int) = some j := by
  unfold ixN
  rw [if_pos (by omega), if_pos (by omega), Int.toNat_natCast]
def cz (l : List (List Nat)) : List (List Int) := l.map fun r => r.map fun (n : Nat) => (n : Int)
theorem cutV_take (xs : List V) (n : Nat) : cutV xs none (some (n : Int)) = xs.take n := by
  unfold cutV
  rw [HT.sIx_nat, HT.sIx_none, Nat.sub_zero, List.drop_zero]
  by_cases h : n ≤ xs.length
  · rw [Nat.min_eq_left h]
  · rw [Nat.min_eq_right (by omega), List.take_of_length_le (Nat.le_refl _), List.take_of_length_le (by omega)]
section
variable {P : Program} {w : World} {K : PySem.W.Frag} {mg : Str → Option Value} {base : Heap} {f fT fM fB : Addr} {fd fdT fdM fdB : FuncData}
def spShape : Sp := fun vs H Q _ => ∃ (p q : Addr) (n : Nat), vs = [.ref p, .int (n : Int)] ∧ 1 ≤ n ∧ n ≤ 12 ∧ HandAt H p q ∧
  ∀ l H' us (bs : List (List Nat)), Oth p H H' → HandAt H' p q → H l = none → H' l = some (.lst us) → LsN l H' us bs → bs.length = n → BOk bs → Q (.ref l) H'
theorem sc_shape : FnScope ["_law_hand_here", "_law_many", "_law_kind", "_law_c", "_law_rows", "_law_bases_here", "_law_row", "_law_at"] ["_law_hand_here", "_law_many"] (defScope (top 40)) := ⟨rfl, rfl, rfl, by decide +kernel, rfl, by decide +kernel, by decide +kernel⟩
theorem ok_shape (F : FnP K "_law_shape" 40 f fd) (B : Fr mg) (FT : FnP K "_law_take" 37 fT fdT) (mT : mg "_law_take" = some (.ref fT)) (FM : FnP K "_law_mixed" 36 fM fdM) (mM : mg "_law_mixed" = some (.ref fM)) (FB : FnP K "_law_bases" 38 fB fdB) (mB : mg "_law_bases" = some (.ref fB)) :
    FnOk P w K mg base CX0 4 f fd ["_law_hand_here", "_law_many"] spShape := by
  have GT : FnOk P w K mg base CX0 2 fT fdT ["_law_hand_here", "_law_many"] spTake := ok_take FT FM mM B.int B.len
  have bT : L2.Binds K fdT ["_law_hand_here", "_law_many"] [] := FT.bindsN fun _ _ _ _ _ _ us hl => match us, hl with | [_, _], _ => rfl
  have GB : FnOk P w K mg base CX0 3 fB fdB ["_law_hand_here", "_law_c"] spBases := ok_bases FB B FT mT FM mM
  have bB : L2.Binds K fdB ["_law_hand_here", "_law_c"] [] := FB.bindsN fun _ _ _ _ _ _ us hl => match us, hl with | [_, _], _ => rfl
  refine F.ok sc_shape (fun vs H Q E h => ?_) (fun cdv A outer s H vs Q E hr h => ?_)
  · obtain ⟨p, q, n, rfl, _⟩ := h
    rfl
  · obtain ⟨p, q, n, rfl, n1, n12, hh, k⟩ := h
    refine ⟨_, PSs.nox (pss_cons (ps_set (i := 2) sc_shape.nd rfl (Or.inl rfl) (pe_call GT (hr.mono (by decide)) (by rfl) mT FT.kp bT .nil pass0 (pa_cons (pv 0) (pa_cons pe_int pa_nil))))
      (pss_cons (ps_if (pt_cmpR op_lt (pv 2) pe_int (nomark _)) (pss_one (ps_ret
        (pe_lc (own := [("_law_c", 3)]) (g := gName 3) (tt := tYes) rfl sc_shape.nd (pi_range1 (by rfl) B.range (pa_cons (pv 1) pa_nil)) (blkOk_by (N := ["_law_hand_here", "_law_many", "_law_kind", "_law_c", "_law_rows", "_law_bases_here", "_law_row", "_law_at"]) (sc := defScope (top 40)) (by decide +kernel))
          (fun _ _ _ _ _ => pg_name (i := 3) sc_shape.nd rfl (Or.inl rfl)) (fun _ _ _ _ _ => pts_nil)
          (fun _ _ _ _ _ => pe_call GB hr (by rfl) mB FB.kp bB .nil pass0 (pa_cons (pv 0) (pa_cons (pv 3) pa_nil)))))) pss_nil)
      (pss_cons (ps_set (i := 4) sc_shape.nd rfl (Or.inl rfl) (pe_ix ix_list (pe_lit3 (pa_lits2 (pe_lit2 (pa_lits pe_il0 (pa_lits pe_il0 (pa_lits pe_il2 (pa_lits pe_il0 (pa_lits pe_il2 (pa_lits pe_il2 (pa_lits pe_il2 pa_lits_nil))))))))
          (pa_lits2 (pe_lit2 (pa_lits pe_il0 (pa_lits pe_il0 (pa_lits pe_il0 (pa_lits pe_il2 (pa_lits pe_il2 (pa_lits pe_il2 (pa_lits pe_il2 (pa_lits pe_il1 pa_lits_nil)))))))))
          (pa_lits2 (pe_lit2 (pa_lits pe_il0 (pa_lits pe_il1 (pa_lits pe_il1 (pa_lits pe_il2 (pa_lits pe_il1 (pa_lits pe_il2 (pa_lits pe_il2 (pa_lits pe_il2 pa_lits_nil)))))))))
          (pa_lits2 (pe_lit2 (pa_lits pe_il0 (pa_lits pe_il1 (pa_lits pe_il1 (pa_lits pe_il1 (pa_lits pe_il2 (pa_lits pe_il2 (pa_lits pe_il2 (pa_lits pe_il2 pa_lits_nil)))))))))
          (pa_lits2 (pe_lit2 (pa_lits pe_il0 (pa_lits pe_il1 (pa_lits pe_il1 (pa_lits pe_il2 (pa_lits pe_il1 (pa_lits pe_il2 (pa_lits pe_il1 (pa_lits pe_il2 pa_lits_nil)))))))))
          (pa_lits2 (pe_lit2 (pa_lits pe_il0 (pa_lits pe_il0 (pa_lits pe_il2 (pa_lits pe_il0 (pa_lits pe_il2 (pa_lits pe_il1 (pa_lits pe_il2 (pa_lits pe_il1 pa_lits_nil)))))))))
          pa_lits2_nil))))))) (pe_op op_sub (pv 2) pe_int) (fun _ _ => rfl)))
      (pss_cons (ps_setLc (i := 5) (own := [("_law_row", 6)]) (g := gName 6) (tt := tYes) rfl sc_shape.nd rfl rfl (sw_true rfl rfl rfl (by decide +kernel)) (pi_list (pe_slice sl_list (pv 4) po_none (po_some (pv 1)))) (blkOk_by (N := ["_law_hand_here", "_law_many", "_law_kind", "_law_c", "_law_rows", "_law_bases_here", "_law_row", "_law_at"]) (sc := defScope (top 40)) (by decide +kernel))
          (fun _ _ _ _ _ => pg_name (i := 6) sc_shape.nd rfl (Or.inl rfl)) (fun _ _ _ _ _ => pts_nil)
          (fun _ _ _ _ _ => pe_callTy (T := "list") (r := rListOf K) (call_lst (X := _)) (by rfl) B.list (by decide +kernel) (pa_cons (pv 6) pa_nil)))
      (pss_cons (ps_while PassesOwn.never (pt_cmpR op_lt (pe_callB call_len_seq (by rfl) B.len PySem.boot_len (pa_cons (pv 5) pa_nil)) (pv 1) (nomark _))
        (pss_one (ps_expr (pe_bm PySem.F.plainAttrs_list PySem.F.slot_list_append PySem.F.type_list_append mt_append (pv 5) (pa_cons (pe_call GB hr (by rfl) mB FB.kp bB .nil pass0 (pa_cons (pv 0) (pa_cons (pe_callB call_len_seq (by rfl) B.len PySem.boot_len (pa_cons (pv 5) pa_nil)) pa_nil))) pa_nil)))))
      (pss_cons (ps_set (i := 7) sc_shape.nd rfl (Or.inl rfl) (pe_call GT (hr.mono (by decide)) (by rfl) mT FT.kp bT .nil pass0 (pa_cons (pv 0) (pa_cons (pv 1) pa_nil))))
      (pss_cons (ps_if (pt_cmpR op_eq (pe_call GT (hr.mono (by decide)) (by rfl) mT FT.kp bT .nil pass0 (pa_cons (pv 0) (pa_cons pe_int pa_nil))) pe_int (nomark _))
        (pss_one (ps_asg (pe_call GB hr (by rfl) mB FB.kp bB .nil pass0 (pa_cons (pv 0) (pa_cons (pv 7) pa_nil))) (pg_sub (pv 5) (pv 7) set_list (fun _ => rfl)))) pss_nil)
      (pss_one (ps_ret (pv 5)))))))))), ?_⟩
    refine ⟨_, rfl, p, q, 8, rfl, by decide, by decide, hh, fun r H1 r0 r1 h1 e1 => ?_⟩
    have O1 : Oth p H H1 := Oth.take e1
    refine ⟨_, rfl, _, _, rfl, rfl, _, rfl, ?_⟩
    refine ite2 (fun _ => ?_) (fun hr2 => ?_)
    · refine ⟨_, rfl, _, rfl, by omega, by omega, fun D hD => ?_⟩
      obtain ⟨Dp, Dq⟩ := h1.ne hD
      have HD : H D = none := oth_free O1 Dp hD
      refine lc_range (n := n) (fun i H2 => Oth p H H2 ∧ HandAt H2 p q ∧ ∃ us bs, H2 D = some (.lst us) ∧ LsN D H2 us bs ∧ bs.length = i ∧ BOk bs) ⟨O1.updN HD, h1.upd Dp Dq, [], [], upd_same, .nil, rfl, fun i r e => by simp at e⟩ ?_ ?_
      · rintro i H2 hi ⟨O2, h2, us, bs, hDu, hU, hl, hb⟩
        refine ⟨rfl, _, rfl, _, rfl, p, q, i, by (show [V.ref p, V.int (0 + (i : Int))] = _; rw [Int.zero_add]), by omega, h2, fun l H3 row O3 h3 hl3 e3 nd hlt hl3' => ?_⟩
        have lD : l ≠ D := fun z => by
          rw [z, hDu] at hl3
          cases hl3
        have D3 : H3 D = some (.lst us) := O3 _ _ Dp hDu
        refine ⟨us, D3, ?_, (O2.trans O3).updN HD, h3.upd Dp Dq, us ++ [.ref l], bs ++ [row], upd_same, ?_, by rw [List.length_append, hl]; rfl, hb.app nd (by rw [hl]; exact hlt) hl3'⟩
        · rw [hU.len, hl]
          show i < 2 ^ 24
          omega
        · exact ((hU.keep (KeepX.oth O3 h2)).app (.cons ⟨l, rfl, lD, e3⟩ .nil)).keep KeepX.upd
      · rintro H2 ⟨O2, h2, us, bs, hDu, hU, hl, hb⟩
        exact k D H2 us bs O2 h2 HD hDu hU hl hb
    · have r2 : ¬ r < 2 := fun z => hr2 (decide_eq_true z)
      intro T uT H2 s2 hT hTab
      have hTab' : TabsI H2 uT (shapeTab.map cz) := hTab
      refine ⟨_, rfl, _, _, rfl, rfl, ?_⟩
      obtain ⟨j, rfl⟩ : ∃ j : Nat, r = ((j + 2 : Nat) : Int) := ⟨(r - 2).toNat, by omega⟩
      have jl : j < shapeTab.length := by
        show j < 6
        omega
      obtain ⟨tab, htab⟩ : ∃ tab, shapeTab[j]? = some tab := ⟨_, List.getElem?_eq_getElem jl⟩
      have tok := shapeTab_ok tab (List.mem_of_getElem? htab)
      obtain ⟨t, ut, et, h1t, h2t⟩ := hTab'.get (i := j) (l := cz tab) (by rw [List.getElem?_map, htab]; rfl)
      refine ⟨T, uT, _, _, rfl, rfl, SqL.of hT, by rw [show ((j + 2 : Nat) : Int) - 2 = (j : Int) by omega]; exact atI_nat et, ?_⟩
      have O2 : Oth p H H2 := O1.trans (Oth.of s2)
      have hh2 := h1.same s2
      refine ⟨_, rfl, _, rfl, _, rfl, t, ut, rfl, SqL.of h1t, fun S hS => ?_⟩
      rw [cutV_take]
      have sS : Same H2 (upd H2 S (.lst (ut.take n))) := same_new hS
      refine ⟨S, rfl, ⟨_, SqL.of upd_same⟩, fun D hD => ?_⟩
      have hD2 : H2 D = none := by
        cases e : H2 D with
        | none => rfl
        | some o =>
          rw [sS _ _ e] at hD
          cases hD
      obtain ⟨Dp, Dq⟩ := hh2.ne hD2
      have HD : H D = none := oth_free O2 Dp hD2
      have sD := same_new (o := .lst []) hD
      refine lc_list (K := K) (a := S) (xs := ut.take n) (fun i H3 => Same (upd H2 S (.lst (ut.take n))) H3 ∧ ∃ us, H3 D = some (.lst us) ∧ LsN D H3 us ((tab.take n).take i)) ⟨sD, [], upd_same, .nil⟩ (fun i H3 _ h => SqL.of (h.1 _ _ upd_same)) ?_ ?_
      · rintro i y H3 hi ⟨s3, us, hDu, hU⟩
        have lut : ut.length = tab.length := by
          have := Paired.length h2t
          unfold cz at this
          rw [List.length_map] at this
          exact this
        have hi1 : i < (tab.take n).length := by
          have := (List.getElem?_eq_some_iff.mp hi).1
          rw [List.length_take] at this ⊢
          omega
        have hin : i < n := by
          rw [List.length_take] at hi1
          omega
        obtain ⟨row, hrow⟩ : ∃ row, (tab.take n)[i]? = some row := ⟨_, List.getElem?_eq_getElem hi1⟩
        have hrow0 : tab[i]? = some row := by
          rw [List.getElem?_take, if_pos hin] at hrow
          exact hrow
        obtain ⟨a, ea, ha⟩ := h2t.get (i := i) (l := row.map fun (n : Nat) => (n : Int)) (by unfold cz; rw [List.getElem?_map, hrow0]; rfl)
        obtain rfl : V.ref a = y := by
          rw [List.getElem?_take, if_pos hin, ea] at hi
          exact Option.some.inj hi
        refine ⟨rfl, _, rfl, a, _, rfl, .inl (SqL.of (s3 _ _ (sS _ _ ha))), fun L hL => ?_⟩
        have sL := same_new (o := .lst ((row.map fun (n : Nat) => (n : Int)).map V.int)) hL
        have LD : L ≠ D := fun z => by
          rw [z, hDu] at hL
          cases hL
        refine ⟨us, sL _ _ hDu, ?_, same_upd (s3.trans sL) hD, us ++ [.ref L], upd_same, ?_⟩
        · rw [hU.len, List.length_take]
          show _ < 2 ^ 24
          omega
        · rw [List.take_add_one, hrow, Option.toList_some]
          refine ((hU.keep (KeepX.of sL)).app (.cons ⟨L, rfl, LD, ?_⟩ .nil)).keep KeepX.upd
          rw [natsI]
          exact upd_same
      · rintro H3 ⟨s3, us, hDu, hU⟩
        have lut : ut.length = tab.length := by
          have := Paired.length h2t
          unfold cz at this
          rw [List.length_map] at this
          exact this
        have O3 : Oth p H H3 := (O2.trans (Oth.of sS)).trans (Oth.of s3)
        have hh3 := (hh2.same sS).same s3
        rw [List.length_take, lut, ← List.length_take, List.take_length] at hU
        have ltab : (tab.take n).length ≤ n := by
          rw [List.length_take]
          omega
        -- from here on the list stands at D
        let Mid : L2.St → Hp → Prop := fun σ H' => ∃ (x6 x7 : Option V), σ = [some (.ref p), some (.int (n : Int)), some (.int ((j + 2 : Nat) : Int)), none, some (.ref t), some (.ref D), x6, x7] ∧ Oth p H H' ∧ HandAt H' p q ∧ ∃ us bs, H' D = some (.lst us) ∧ LsN D H' us bs ∧ bs.length ≤ n ∧ BOk bs
        refine while_by (fun σ H' => Mid σ H') (fun σ H' => match H' D with | some (.lst us) => n - us.length | _ => 0) ⟨_, _, rfl, O3, hh3, us, tab.take n, hDu, hU, ltab, tok.take n⟩ ?_ ?_
        · rintro σ H' ⟨x6, x7, rfl, O4, h4, us, bs, hDu, hU, hl, hb⟩
          refine ⟨_, rfl, D, us, rfl, .inl (SqL.of hDu), _, rfl, _, _, rfl, rfl, _, rfl, ?_⟩
          refine ite2 (fun hlt => ?_) (fun hge => ?_)
          · have hlt' : (us.length : Int) < (n : Int) := of_decide_eq_true hlt
            refine ⟨_, rfl, .inl ⟨rfl, _, SqL.of hDu⟩, _, rfl, _, rfl, D, us, rfl, .inl (SqL.of hDu), p, q, us.length, rfl, by omega, h4, fun l H5 row O5 h5 hl5 e5 nd hlt5 hl5' => ?_⟩
            have lD : l ≠ D := fun z => by
              rw [z, hDu] at hl5
              cases hl5
            have D5 : H5 D = some (.lst us) := O5 _ _ Dp hDu
            refine ⟨D, us, _, rfl, rfl, D5, by (show us.length < 2 ^ 24); omega, ⟨_, _, rfl, (O4.trans O5).updN HD, h5.upd Dp Dq, us ++ [.ref l], bs ++ [row], upd_same, ?_, ?_, hb.app nd (by rw [← hU.len]; exact hlt5) hl5'⟩, ?_⟩
            · exact ((hU.keep (KeepX.oth O5 h4)).app (.cons ⟨l, rfl, lD, e5⟩ .nil)).keep KeepX.upd
            · rw [List.length_append, ← hU.len]
              show us.length + 1 ≤ n
              omega
            · show (match upd H5 D (.lst (us ++ [.ref l])) D with | some (.lst us) => n - us.length | _ => 0) < (match H' D with | some (.lst us) => n - us.length | _ => 0)
              rw [upd_same, hDu]
              show n - (us ++ [V.ref l]).length < n - us.length
              rw [List.length_append, List.length_singleton]
              omega
          · have hge' : ¬ (us.length : Int) < (n : Int) := fun z => hge (decide_eq_true z)
            have hbn : bs.length = n := by
              have := hU.len
              omega
            refine ⟨_, rfl, _, rfl, p, q, (n : Int), rfl, by omega, by omega, h4, fun r5 H5 r50 r51 h5 e5 => ?_⟩
            obtain ⟨m, rfl⟩ : ∃ m : Nat, r5 = (m : Int) := ⟨r5.toNat, by omega⟩
            refine ⟨_, rfl, p, q, 3, rfl, by decide, by decide, h5, fun r6 H6 r60 r61 h6 e6 => ?_⟩
            have O5 : Oth p H' H5 := Oth.take e5
            have O6 : Oth p H5 H6 := Oth.take e6
            have D6 : H6 D = some (.lst us) := O6 _ _ Dp (O5 _ _ Dp hDu)
            have hU6 : LsN D H6 us bs := (hU.keep (KeepX.oth O5 h4)).keep (KeepX.oth O6 h5)
            have O46 := (O4.trans O5).trans O6
            refine ⟨rfl, _, rfl, ?_⟩
            refine ite2 (fun _ => ?_) (fun _ => ⟨_, rfl, k D H6 us bs O46 h6 HD D6 hU6 hbn hb⟩)
            refine ⟨_, rfl, _, rfl, p, q, m, rfl, by omega, h6, fun l H7 row O7 h7 hl7 e7 nd hlt7 hl7' => ?_⟩
            have lD : l ≠ D := fun z => by
              rw [z, D6] at hl7
              cases hl7
            have D7 : H7 D = some (.lst us) := O7 _ _ Dp D6
            have mus : m < us.length := by
              have := hU.len
              omega
            refine ⟨_, rfl, _, rfl, D, us, _, m, rfl, rfl, D7, ?_, ?_⟩
            · exact ixN_at mus
            · refine ⟨_, rfl, k D _ (us.set m (.ref l)) (bs.set m row) ((O46.trans O7).updN HD) (h7.upd Dp Dq) HD upd_same ?_ (by rw [List.length_set]; exact hbn) (hb.set nd hlt7 hl7')⟩
              exact ((hU6.keep (KeepX.oth O7 h6)).keep KeepX.upd).set lD (upB lD e7) m
        · intro σ H' Q Q' hq hc
          obtain ⟨v, e1, a, us, e2, sq, v2, e3, i, j, e4, e5, b, e6, q⟩ := hc
          exact ⟨v, e1, a, us, e2, sq, v2, e3, i, j, e4, e5, b, e6, hq _ _ q⟩
end
end K59

set_option maxRecDepth 100000
set_option maxHeartbeats 8000000
namespace K59
open PySem PySem.Spec PyProof.Rows L2 Kw
/-- a law's own rows (bases, fields, methods), nothing of them at R -/
def RwN (R : Addr) (H : Hp) : List V → List Ent → Prop := Paired fun v d => ∃ t b m, v = .ref t ∧ t ≠ R ∧ H t = some (.tup [.ref b, natV d.2.1, .ref m]) ∧ b ≠ R ∧ H b = some (.lst (d.1.map natV)) ∧ m ≠ R ∧ H m = some (.lst (d.2.2.map natV))
theorem RwN.keep {R : Addr} {H H' : Hp} (k : KeepX R H H') : ∀ {vs : List V} {ls : List Ent}, RwN R H vs ls → RwN R H' vs ls
  | [], [], _ => .nil
  | _ :: _, _ :: _, .cons ⟨t, b, m, e, n1, h1, n2, h2, n3, h3⟩ r => .cons ⟨t, b, m, e, n1, k _ _ n1 h1 (.inl ⟨_, rfl⟩), n2, k _ _ n2 h2 (ints_o _), n3, k _ _ n3 h3 (ints_o _)⟩ (RwN.keep k r)
theorem RwN.get {R : Addr} {H : Hp} : ∀ {vs : List V} {ls : List Ent} {i : Nat} {d : Ent}, RwN R H vs ls → ls[i]? = some d → ∃ t b m, vs[i]? = some (.ref t) ∧ H t = some (.tup [.ref b, natV d.2.1, .ref m]) ∧ H b = some (.lst (d.1.map natV)) ∧ H m = some (.lst (d.2.2.map natV))
  | [], [], _, _, _, h => by simp at h
  | _ :: _, _ :: _, 0, _, .cons ⟨t, b, m, e1, n1, h1, n2, h2, n3, h3⟩ _, e => by
    obtain rfl := Option.some.inj e
    exact ⟨t, b, m, by rw [e1]; rfl, h1, h2, h3⟩
  | _ :: _, _ :: _, i + 1, _, .cons _ r, e => RwN.get (i := i) r e
theorem RwN.app {R : Addr} {H : Hp} : ∀ {vs us : List V} {ls ms : List Ent}, RwN R H vs ls → RwN R H us ms → RwN R H (vs ++ us) (ls ++ ms)
  | [], _, [], _, _, h => h
  | _ :: _, _, _ :: _, _, .cons h r, s => .cons h (RwN.app r s)
theorem RwN.len {R : Addr} {H : Hp} {vs : List V} {ls : List Ent} (h : RwN R H vs ls) : vs.length = ls.length := Paired.length h
theorem RwN.rows {R : Addr} {H : Hp} : ∀ {vs : List V} {ls : List Ent}, RwN R H vs ls → RowsAt H vs (ls.map (·.1))
  | [], [], _ => .nil
  | _ :: _, _ :: _, .cons ⟨t, b, m, e, n1, h1, n2, h2, n3, h3⟩ r => .cons ⟨t, b, _, _, e, h1, .inl h2⟩ (RwN.rows r)
/-- right rows -/
def EOk (i : Nat) (d : Ent) : Prop := d.1.Nodup ∧ (∀ b ∈ d.1, b < i) ∧ d.1.length ≤ 5 ∧ d.2.1 ≤ 3 ∧ d.2.2.Pairwise (· < ·) ∧ (∀ m ∈ d.2.2, m < 6) ∧ d.2.2.length ≤ 3
def DsOk (ds : List Ent) : Prop := ∀ (i : Nat) (d : Ent), ds[i]? = some d → EOk i d
theorem DsOk.app {ds : List Ent} {d : Ent} (h : DsOk ds) (z : EOk ds.length d) : DsOk (ds ++ [d]) := fun i r e => by
  by_cases q : i < ds.length
  · rw [List.getElem?_append_left q] at e
    exact h i r e
  · rw [List.getElem?_append_right (by omega)] at e
    by_cases q2 : i - ds.length = 0
    · rw [q2] at e
      obtain rfl : d = r := Option.some.inj e
      have : i = ds.length := by omega
      rw [this]
      exact z
    · rw [List.getElem?_eq_none (by rw [List.length_singleton]; omega)] at e
      cases e
theorem DsOk.valid {ds : List Ent} (h : DsOk ds) : validB (ds.map (·.1)) := fun c row e b hb => by
  rw [List.getElem?_map] at e
  obtain ⟨d, hd, rfl⟩ := Option.map_eq_some_iff.mp e
  exact (h c d hd).2.1 b hb
theorem DsOk.short {ds : List Ent} (h : DsOk ds) : ∀ row ∈ ds.map (·.1), row.length ≤ 5 := fun row hr => by
  obtain ⟨d, hd, rfl⟩ := List.mem_map.mp hr
  obtain ⟨i, hi⟩ := List.mem_iff_getElem?.mp hd
  exact (h i d hi).2.2.1
/-- as World takes them -/
theorem RwN.entries {R : Addr} {H : Hp} {vs : List V} {ds : List Ent} (h : RwN R H vs ds) (ok : DsOk ds) : ∀ (i : Nat) (d : Ent), ds[i]? = some d → ∃ e, vs[i]? = some e ∧ EntryOk H e i d := fun i d hd => by
  obtain ⟨t, b, m, e, h1, h2, h3⟩ := h.get hd
  obtain ⟨o1, o2, o3, o4, o5, o6, o7⟩ := ok i d hd
  exact ⟨_, e, t, b, m, rfl, .inr h1, .inl h2, .inl h3, ⟨o1, by omega, o2⟩, o4, up_nodup o5, o7, o6⟩
section
variable {P : Program} {w : World} {K : PySem.W.Frag} {mg : Str → Option Value} {base : Heap} {f fT fM fB fS fMe : Addr} {fd fdT fdM fdB fdS fdMe : FuncData}
def spClasses : Sp := fun vs H Q _ => ∃ (p q : Addr) (lo hi most : Nat) (wanted : Bool), vs = [.ref p, .int (lo : Int), .int (hi : Int), .int (most : Int), .bl wanted] ∧ 1 ≤ lo ∧ lo ≤ hi ∧ hi ≤ 12 ∧ HandAt H p q ∧
  ∀ l H' us (ds : List Ent), Oth p H H' → HandAt H' p q → H l = none → H' l = some (.lst us) → RwN l H' us ds → lo ≤ ds.length → ds.length ≤ hi → DsOk ds → Q (.ref l) H'
theorem sc_classes : FnScope ["_law_hand_here", "_law_low", "_law_high", "_law_most", "_law_wanted", "_law_many", "_law_bases_here", "_law_rest", "_law_rows", "_law_own", "_law_fields"] ["_law_hand_here", "_law_low", "_law_high", "_law_most", "_law_wanted"] (defScope (top 41)) := ⟨rfl, rfl, rfl, by decide +kernel, rfl, by decide +kernel, by decide +kernel⟩
theorem ok_classes (F : FnP K "_law_classes" 41 f fd) (B : Fr mg) (FT : FnP K "_law_take" 37 fT fdT) (mT : mg "_law_take" = some (.ref fT)) (FM : FnP K "_law_mixed" 36 fM fdM) (mM : mg "_law_mixed" = some (.ref fM)) (FB : FnP K "_law_bases" 38 fB fdB) (mB : mg "_law_bases" = some (.ref fB))
    (FS : FnP K "_law_shape" 40 fS fdS) (mS : mg "_law_shape" = some (.ref fS)) (FMe : FnP K "_law_methods" 39 fMe fdMe) (mMe : mg "_law_methods" = some (.ref fMe)) (gMax : mg "max" = none) (gMin : mg "min" = none) :
    FnOk P w K mg base CX0 5 f fd ["_law_hand_here", "_law_low", "_law_high", "_law_most", "_law_wanted"] spClasses := by
  have GT : FnOk P w K mg base CX0 2 fT fdT ["_law_hand_here", "_law_many"] spTake := ok_take FT FM mM B.int B.len
  have bT : L2.Binds K fdT ["_law_hand_here", "_law_many"] [] := FT.bindsN fun _ _ _ _ _ _ us hl => match us, hl with | [_, _], _ => rfl
  have GS : FnOk P w K mg base CX0 4 fS fdS ["_law_hand_here", "_law_many"] spShape := ok_shape FS B FT mT FM mM FB mB
  have bS : L2.Binds K fdS ["_law_hand_here", "_law_many"] [] := FS.bindsN fun _ _ _ _ _ _ us hl => match us, hl with | [_, _], _ => rfl
  have GMe : FnOk P w K mg base CX0 3 fMe fdMe ["_law_hand_here"] spMethods := ok_methods FMe B FT mT FM mM
  have bMe : L2.Binds K fdMe ["_law_hand_here"] [] := FMe.bindsN fun _ _ _ _ _ _ us hl => match us, hl with | [_], _ => rfl
  refine F.ok sc_classes (fun vs H Q E h => ?_) (fun cdv A outer s H vs Q E hr h => ?_)
  · obtain ⟨p, q, lo, hi, most, wanted, rfl, _⟩ := h
    rfl
  · obtain ⟨p, q, lo, hi, most, wanted, rfl, l1, l2, l3, hh, k⟩ := h
    refine ⟨_, PSs.nox (pss_cons (ps_set (i := 5) sc_classes.nd rfl (Or.inl rfl) (pe_op op_add (pv 1) (pe_callB (call_max2 rfl) (by rfl) gMax (by decide +kernel)
        (pa_cons (pe_call GT (hr.mono (by decide)) (by rfl) mT FT.kp bT .nil pass0 (pa_cons (pv 0) (pa_cons (pe_op op_add (pe_op op_sub (pv 2) (pv 1)) pe_int) pa_nil)))
        (pa_cons (pe_call GT (hr.mono (by decide)) (by rfl) mT FT.kp bT .nil pass0 (pa_cons (pv 0) (pa_cons (pe_op op_add (pe_op op_sub (pv 2) (pv 1)) pe_int) pa_nil))) pa_nil)))))
      (pss_cons (ps_set (i := 6) sc_classes.nd rfl (Or.inl rfl) (pe_call GS hr (by rfl) mS FS.kp bS .nil pass0 (pa_cons (pv 0) (pa_cons (pv 5) pa_nil))))
      (pss_cons (ps_set (i := 7) sc_classes.nd rfl (Or.inl rfl) (pv 3))
      (pss_cons (ps_set (i := 8) sc_classes.nd rfl (Or.inl rfl) (pe_lst pa_nil))
      (pss_cons (ps_for PassesOwn.never rfl (pi_list (pv 6)) (pg_name (i := 9) sc_classes.nd rfl (Or.inl rfl))
        (pss_cons (ps_set (i := 10) sc_classes.nd rfl (Or.inl rfl) (pe_callB (call_min2 rfl) (by rfl) gMin (by decide +kernel) (pa_cons (pv 7)
          (pa_cons (pe_ix ix_tup (pe_tup (pa_cons pe_int (pa_cons pe_int (pa_cons pe_int (pa_cons pe_int (pa_cons pe_int (pa_cons pe_int (pa_cons pe_int (pa_cons pe_int (pa_cons pe_int (pa_cons pe_int pa_nil))))))))))) (pe_call GT (hr.mono (by decide)) (by rfl) mT FT.kp bT .nil pass0 (pa_cons (pv 0) (pa_cons pe_int pa_nil))) (fun _ _ => rfl)) pa_nil))))
        (pss_cons (ps_set (i := 7) sc_classes.nd rfl (Or.inl rfl) (pe_op op_sub (pv 7) (pv 10)))
        (pss_one (ps_expr (pe_bm PySem.F.plainAttrs_list PySem.F.slot_list_append PySem.F.type_list_append mt_append (pv 8) (pa_cons (pe_tup (pa_cons (pv 9) (pa_cons (pv 10)
          (pa_cons (pe_ifExp (pt_val (pv 4)) (pe_call GMe (hr.mono (by decide)) (by rfl) mMe FMe.kp bMe .nil pass0 (pa_cons (pv 0) pa_nil)) (pe_lst pa_nil)) pa_nil)))) pa_nil)))))))
      (pss_one (ps_ret (pv 8)))))))), ?_⟩
    have m0 : (1 : Int) ≤ (hi : Int) - (lo : Int) + 1 := by omega
    have m1 : (hi : Int) - (lo : Int) + 1 < 1073741824 := by omega
    refine ⟨_, rfl, _, rfl, _, rfl, _, rfl, _, _, rfl, rfl, _, _, rfl, rfl, p, q, _, rfl, m0, m1, hh, fun r1 H1 r10 r11 h1 e1 => ?_⟩
    refine ⟨_, rfl, _, rfl, _, rfl, _, _, rfl, rfl, _, _, rfl, rfl, p, q, _, rfl, m0, m1, h1, fun r2 H2 r20 r21 h2 e2 => ?_⟩
    have O2 : Oth p H H2 := (Oth.take e1).trans (Oth.take e2)
    refine ⟨_, _, rfl, _, _, rfl, rfl, ?_⟩
    obtain ⟨n, en, n1, n2⟩ : ∃ n : Nat, (lo : Int) + (if r2 > r1 then r2 else r1) = (n : Int) ∧ lo ≤ n ∧ n ≤ hi := by
      refine ⟨((lo : Int) + (if r2 > r1 then r2 else r1)).toNat, ?_, ?_, ?_⟩ <;> split <;> omega
    have en' : V.int ((lo : Int) + (if r2 > r1 then r2 else r1)) = natV n := by rw [en]; rfl
    show gName 5 (V.int ((lo : Int) + (if r2 > r1 then r2 else r1))) _ _ _
    rw [en']
    refine ⟨_, rfl, _, rfl, p, q, n, rfl, by omega, by omega, h2, fun l H3 ul bs O3 h3 hl3 L3 hU3 hbn hb3 => ?_⟩
    have O3' := O2.trans O3
    obtain ⟨lp, lq⟩ := h2.ne hl3
    refine ⟨_, rfl, by decide, fun D hD => ?_⟩
    obtain ⟨Dp, Dq⟩ := h3.ne hD
    have HD : H D = none := oth_free O3' Dp hD
    have sD := same_new (o := .lst []) hD
    have lD : l ≠ D := fun z => by
      rw [z, hD] at L3
      cases L3
    refine ⟨_, rfl, l, rfl, ⟨_, SqL.of (sD _ _ L3)⟩, for_list (K := K) (a := l) (xs := ul) (fun i σ H' => ∃ (rest : Nat) (x9 x10 : Option V), σ = [some (.ref p), some (.int (lo : Int)), some (.int (hi : Int)), some (.int (most : Int)), some (.bl wanted), some (natV n), some (.ref l), some (.int (rest : Int)), some (.ref D), x9, x10] ∧
        Oth p H H' ∧ HandAt H' p q ∧ H' l = some (.lst ul) ∧ LsN D H' ul bs ∧ ∃ us ds, H' D = some (.lst us) ∧ RwN D H' us ds ∧ ds.length = i ∧ DsOk ds)
      ⟨most, none, none, rfl, O3'.updN HD, h3.upd Dp Dq, sD _ _ L3, ?_, [], [], upd_same, .nil, rfl, fun i d e => by simp at e⟩ (fun i σ H' _ ⟨_, _, _, _, _, _, h, _⟩ => SqL.of h) ?_ ?_⟩
    · have key : ∀ {vs : List V} {ls : List (List Nat)}, LsN l H3 vs ls → LsN D (upd H3 D (.lst [])) vs ls := fun h => by
        induction h with
        | nil => exact .nil
        | cons z _ ih =>
          obtain ⟨t, e, n, ht⟩ := z
          exact .cons ⟨t, e, fun z => (by rw [z, hD] at ht; cases ht), sD _ _ ht⟩ ih
      exact key hU3
    · rintro i y σ H4 hi4 ⟨rest, x9, x10, rfl, O4, h4, L4, hB4, us, ds, D4, hR4, hl4, ok4⟩
      have hin : i < n := by
        have := (List.getElem?_eq_some_iff.mp hi4).1
        rw [hU3.len, hbn] at this
        exact this
      obtain ⟨row, hrow⟩ : ∃ row, bs[i]? = some row := ⟨_, List.getElem?_eq_getElem (by omega)⟩
      obtain ⟨b, eb, bD, hb⟩ := hB4.get hrow
      obtain rfl : V.ref b = y := Option.some.inj (eb.symm.trans hi4)
      obtain ⟨bo1, bo2, bo3⟩ := hb3 i row hrow
      refine ⟨_, rfl, by (show 10 ≤ sizeLine); decide, fun t ht => ?_⟩
      obtain ⟨tp, tq⟩ := h4.ne ht
      have st := same_new (o := .tup (([1, 1, 0, 1, 2, 1, 2, 1, 1, 3] : List Int).map V.int)) ht
      refine ⟨_, rfl, p, q, 10, rfl, by decide, by decide, h4.upd tp tq, fun r H5 r0 r1 h5 e5 => ?_⟩
      obtain ⟨v, hv, hm⟩ := tab_at (tab := [1, 1, 0, 1, 2, 1, 2, 1, 1, 3]) r0 r1
      have hv3 : 0 ≤ v ∧ v ≤ 3 := (by decide : ∀ v ∈ ([1, 1, 0, 1, 2, 1, 2, 1, 1, 3] : List Int), 0 ≤ v ∧ v ≤ 3) v hm
      have T5 : H5 t = some (.tup (([1, 1, 0, 1, 2, 1, 2, 1, 1, 3] : List Int).map V.int)) := by
        rw [e5 t tp]
        exact upd_same
      have O5 : Oth p H4 H5 := (Oth.of st).trans (Oth.take e5)
      refine ⟨t, _, r, _, rfl, rfl, SqT.of T5, hv, _, _, rfl, ?_⟩
      obtain ⟨g, eg, g3, gr⟩ : ∃ g : Nat, (if v < (rest : Int) then v else (rest : Int)) = (g : Int) ∧ g ≤ 3 ∧ g ≤ rest := by
        refine ⟨(if v < (rest : Int) then v else (rest : Int)).toNat, ?_, ?_, ?_⟩ <;> split <;> omega
      have eg' : V.int (if v < (rest : Int) then v else (rest : Int)) = natV g := by rw [eg]; rfl
      show gName 10 (V.int (if v < (rest : Int) then v else (rest : Int))) _ _ _
      rw [eg']
      refine ⟨_, rfl, _, rfl, _, _, rfl, rfl, ?_⟩
      have er : V.int ((rest : Int) - (g : Int)) = V.int ((rest - g : Nat) : Int) := by congr 1; omega
      show gName 7 (V.int ((rest : Int) - (g : Int))) _ _ _
      rw [er]
      have D5 : H5 D = some (.lst us) := O5 _ _ Dp D4
      -- the end of a turn, the methods' list at m
      have O45 := O4.trans O5
      have hh5 := h5
      have fin : ∀ (m : Addr) (ms : List Nat) (H6 : Hp), Oth p H5 H6 → HandAt H6 p q → H5 m = none → H6 m = some (.lst (ms.map natV)) → ms.Pairwise (· < ·) → (∀ m ∈ ms, m < 6) → ms.length ≤ 3 → ∀ (u : Addr), H6 u = none →
          ∃ (us1 : List V) (ds1 : List Ent), upd (upd H6 u (.tup [.ref b, natV g, .ref m])) D (.lst (us ++ [.ref u])) D = some (.lst us1) ∧ RwN D (upd (upd H6 u (.tup [.ref b, natV g, .ref m])) D (.lst (us ++ [.ref u]))) us1 ds1 ∧ ds1.length = i + 1 ∧ DsOk ds1 := by
        intro m ms H6 O6 h6 hm5 hm6 p1 p2 p3 u hu
        have su := same_new (o := .tup [.ref b, natV g, .ref m]) hu
        have D6 : H6 D = some (.lst us) := O6 _ _ Dp D5
        have uD : u ≠ D := fun z => by
          rw [z, D6] at hu
          cases hu
        have mD : m ≠ D := fun z => by
          rw [z, D5] at hm5
          cases hm5
        have kb : KeepX D H4 H6 := (KeepX.oth O5 h4).trans (KeepX.oth O6 h5)
        refine ⟨us ++ [.ref u], ds ++ [(row, g, ms)], upd_same, ?_, by rw [List.length_append, hl4]; rfl, ok4.app ⟨bo1, by rw [hl4]; exact bo2, Nat.le_trans bo3 (by decide), g3, p1, p2, p3⟩⟩
        refine (((hR4.keep kb).keep (KeepX.of su)).app (.cons ⟨u, b, m, rfl, uD, upd_same, bD, ?_, mD, su _ _ hm6⟩ .nil)).keep KeepX.upd
        exact su _ _ (kb _ _ bD hb (ints_o _))
      have inv : ∀ (m : Addr) (ms : List Nat) (H6 : Hp), Oth p H5 H6 → HandAt H6 p q → H5 m = none → H6 m = some (.lst (ms.map natV)) → ms.Pairwise (· < ·) → (∀ m ∈ ms, m < 6) → ms.length ≤ 3 → ∀ (u : Addr), H6 u = none →
          H6 D = some (.lst us) ∧ Oth p H (upd (upd H6 u (.tup [.ref b, natV g, .ref m])) D (.lst (us ++ [.ref u]))) ∧ HandAt (upd (upd H6 u (.tup [.ref b, natV g, .ref m])) D (.lst (us ++ [.ref u]))) p q ∧
          upd (upd H6 u (.tup [.ref b, natV g, .ref m])) D (.lst (us ++ [.ref u])) l = some (.lst ul) ∧ LsN D (upd (upd H6 u (.tup [.ref b, natV g, .ref m])) D (.lst (us ++ [.ref u]))) ul bs := by
        intro m ms H6 O6 h6 hm5 hm6 p1 p2 p3 u hu
        have su := same_new (o := .tup [.ref b, natV g, .ref m]) hu
        have D6 : H6 D = some (.lst us) := O6 _ _ Dp D5
        refine ⟨D6, Oth.updN ((O45.trans O6).trans (Oth.of su)) HD, (h6.same su).upd Dp Dq, upB lD (su _ _ (O6 _ _ lp (O5 _ _ lp L4))), ?_⟩
        exact (((hB4.keep (KeepX.oth O5 h4)).keep (KeepX.oth O6 h5)).keep (KeepX.of su)).keep KeepX.upd
      have dl : us.length < 2 ^ 24 := by
        have := hR4.len
        omega
      refine ⟨_, rfl, .inl ⟨rfl, _, SqL.of D5⟩, _, rfl, _, rfl, _, rfl, wanted, rfl, ?_⟩
      cases wanted with
      | true =>
        refine iteT ⟨_, rfl, p, q, rfl, h5, fun m H6 ms O6 h6 hm5 hm6 p1 p2 p3 => ⟨by (show 3 ≤ sizeLine); decide, fun u hu => ?_⟩⟩
        obtain ⟨us1, ds1, f1, f2, f3, f4⟩ := fin m ms H6 O6 h6 hm5 hm6 p1 p2 p3 u hu
        obtain ⟨v1, v2, v3, v4, v5⟩ := inv m ms H6 O6 h6 hm5 hm6 p1 p2 p3 u hu
        exact ⟨D, us, _, rfl, rfl, same_new hu _ _ v1, dl, rest - g, _, _, rfl, v2, v3, v4, v5, us1, ds1, f1, f2, f3, f4⟩
      | false =>
        refine iteF ⟨by decide, fun m hm => ⟨by (show 3 ≤ sizeLine); decide, fun u hu => ?_⟩⟩
        have sm := same_new (o := .lst []) hm
        obtain ⟨mp, mq⟩ := h5.ne hm
        obtain ⟨us1, ds1, f1, f2, f3, f4⟩ := fin m [] _ (Oth.of sm) (h5.same sm) hm upd_same .nil (fun _ z => by cases z) (by decide) u hu
        obtain ⟨v1, v2, v3, v4, v5⟩ := inv m [] _ (Oth.of sm) (h5.same sm) hm upd_same .nil (fun _ z => by cases z) (by decide) u hu
        exact ⟨D, us, _, rfl, rfl, same_new hu _ _ v1, dl, rest - g, _, _, rfl, v2, v3, v4, v5, us1, ds1, f1, f2, f3, f4⟩
    · rintro σ H4 ⟨rest, x9, x10, rfl, O4, h4, L4, hB4, us, ds, D4, hR4, hl4, ok4⟩
      have : ul.length = n := by rw [hU3.len, hbn]
      exact ⟨_, rfl, k D H4 us ds O4 h4 HD D4 hR4 (by omega) (by omega) ok4⟩
end
end K59

set_option maxRecDepth 100000
set_option maxHeartbeats 8000000
namespace K59
open PySem PySem.Spec PyProof.Rows L2 Kw
/-! ### a law's own kin, hues and clashes -/
def kinOf (els : List (List Nat)) (c : Nat) : List Nat := els.getD c [] ++ [c]
def kins (els : List (List Nat)) : List (List Nat) := (List.range els.length).map (kinOf els)
theorem kins_len (els : List (List Nat)) : (kins els).length = els.length := by
  unfold kins
  rw [List.length_map, List.length_range]
theorem kins_at {els : List (List Nat)} {c : Nat} (h : c < els.length) : (kins els)[c]? = some (kinOf els c) := by
  unfold kins
  rw [List.getElem?_map, List.getElem?_range h]
  rfl
theorem kins_getD {els : List (List Nat)} {c : Nat} (h : c < els.length) : (kins els).getD c [] = kinOf els c := by
  rw [List.getD_eq_getElem?_getD, kins_at h]
  rfl
def hV : Option Nat → V
  | none => .non
  | some n => natV n
def hueOf (hs : List (Option Nat)) (x : Nat) : Option Nat := hs.getD x none
theorem hue_at {hs : List (Option Nat)} {x : Nat} (h : x < hs.length) : (hs.map hV)[x]? = some (hV (hueOf hs x)) := by
  unfold hueOf
  rw [List.getElem?_map, List.getElem?_eq_getElem h, List.getD_eq_getElem?_getD, List.getElem?_eq_getElem h]
  rfl
theorem hV_inj {a b : Option Nat} (h : hV a = hV b) : a = b := by
  cases a <;> cases b
  · rfl
  · cases h
  · cases h
  · exact congrArg some (by have := V.int.inj h; omega)
theorem hV_eq (a b : Option Nat) : decide (hV a = hV b) = (a == b) := by
  rw [Bool.eq_iff_iff, decide_eq_true_iff, beq_iff_eq]
  exact ⟨hV_inj, fun h => by rw [h]⟩
theorem hV_scal (a b : Option Nat) : scal (hV a) (hV b) = true := by cases a <;> cases b <;> rfl
theorem hV_non (a : Option Nat) : decide (hV a = V.non) = a.isNone := by cases a <;> rfl
def OptTup (H : Hp) (v : V) (o : Option (List Nat)) : Prop := (o = none ∧ v = .non) ∨ ∃ l t, o = some l ∧ v = .ref t ∧ H t = some (.tup (l.map natV))
theorem OptTup.same {H H' : Hp} {v : V} {o : Option (List Nat)} (h : OptTup H v o) (s : Same H H') : OptTup H' v o := by
  rcases h with h | ⟨l, t, e1, e2, h⟩
  · exact .inl h
  · exact .inr ⟨l, t, e1, e2, s _ _ h⟩
def Least (c : Nat → Nat → Bool) (xs : List Nat) (o : Option (List Nat)) : Prop :=
  (o = none ∧ ∀ a ∈ xs, ∀ b ∈ xs, c a b = false) ∨ ∃ a b, o = some [a, b] ∧ a ∈ xs ∧ b ∈ xs ∧ c a b = true ∧ ∀ a' ∈ xs, ∀ b' ∈ xs, c a' b' = true → a < a' ∨ (a = a' ∧ b ≤ b')
theorem Least.one {c : Nat → Nat → Bool} {xs : List Nat} {o o' : Option (List Nat)} (h : Least c xs o) (h' : Least c xs o') : o = o' := by
  rcases h with ⟨rfl, h⟩ | ⟨a, b, rfl, ha, hb, hc, hm⟩
  · rcases h' with ⟨rfl, _⟩ | ⟨a, b, rfl, ha, hb, hc, hm⟩
    · rfl
    · rw [h a ha b hb] at hc
      cases hc
  · rcases h' with ⟨rfl, h'⟩ | ⟨a', b', rfl, ha', hb', hc', hm'⟩
    · rw [h' a ha b hb] at hc
      cases hc
    · have z1 := hm a' ha' b' hb' hc'
      have z2 := hm' a ha b hb hc
      have : a = a' ∧ b = b' := by omega
      rw [this.1, this.2]
def condL (ks : List (List Nat)) (hs : List (Option Nat)) (a b : Nat) : Bool := decide (a < b) && ((hueOf hs a).isSome && ((hueOf hs a == hueOf hs b) && !((ks.getD b []).contains a)))
section
variable {P : Program} {w : World} {K : PySem.W.Frag} {mg : Str → Option Value} {base : Heap} {f fE fP : Addr} {fd fdE fdP : FuncData}
def spKin : Sp := fun vs H Q _ => ∃ (a : Addr) (ws : List V) (bs : List (List Nat)), vs = [.ref a] ∧ H a = some (.lst ws) ∧ RowsAt H ws bs ∧ validB bs ∧ bs.length ≤ 12 ∧ (∀ row ∈ bs, row.length ≤ 4) ∧
  ∀ H' l us, Same H H' → H l = none → H' l = some (.lst us) → (∀ v ∈ us, v ≠ .ref l) → ListsAt H' us (kins (elders bs)) → Q (.ref l) H'
theorem elders_row_up (bs : List (List Nat)) (c : Nat) (l : List Nat) (h : (elders bs)[c]? = some l) : l.Pairwise (· < ·) := by
  have key : ∀ (bs : List (List Nat)) (acc : List (List Nat)), (∀ l ∈ acc, l.Pairwise (· < ·)) → ∀ l ∈ bs.foldl (fun rows row => rows ++ [elStep rows row]) acc, l.Pairwise (· < ·) := by
    intro bs
    induction bs with
    | nil => intro acc h; exact h
    | cons b r ih =>
      intro acc h l hl
      rw [List.foldl_cons] at hl
      refine ih _ (fun l hl => ?_) l hl
      rcases List.mem_append.mp hl with hl | hl
      · exact h l hl
      · rw [List.mem_singleton.mp hl]
        exact elStep_up _ _
  exact key bs [] (fun l hl => by cases hl) l (List.mem_of_getElem? h)
theorem kin_up (bs : List (List Nat)) (c : Nat) (h : c < bs.length) : (kinOf (elders bs) c).Pairwise (· < ·) ∧ ∀ x ∈ kinOf (elders bs) c, x ≤ c := by
  obtain ⟨l, hl⟩ : ∃ l, (elders bs)[c]? = some l := ⟨_, List.getElem?_eq_getElem (by rw [elders_len]; exact h)⟩
  have e : (elders bs).getD c [] = l := by
    rw [List.getD_eq_getElem?_getD, hl]
    rfl
  unfold kinOf
  rw [e]
  have lt := elders_lt bs c l hl
  refine ⟨List.pairwise_append.mpr ⟨elders_row_up bs c l hl, List.pairwise_singleton _ _, fun a ha b hb => ?_⟩, fun x hx => ?_⟩
  · rw [List.mem_singleton.mp hb]
    exact lt a ha
  · rcases List.mem_append.mp hx with hx | hx
    · exact Nat.le_of_lt (lt x hx)
    · rw [List.mem_singleton.mp hx]
      exact Nat.le_refl _
end
end K59

set_option maxRecDepth 100000
set_option maxHeartbeats 8000000
namespace K59
open PySem PySem.Spec PyProof.Rows L2 Kw
/-! ### hues and depths: the mathematics -/
theorem elders_pre (bs : List (List Nat)) (i : Nat) : ∀ j, i ≤ j → (elders (bs.take j)).take i = elders (bs.take i) := by
  intro j
  induction j with
  | zero =>
    intro h
    obtain rfl : i = 0 := by omega
    rw [List.take_of_length_le (by rw [elders_len, List.length_take]; omega)]
  | succ j ih =>
    intro h
    by_cases e : i = j + 1
    · rw [← e, List.take_of_length_le (by rw [elders_len, List.length_take]; omega)]
    · by_cases q : j < bs.length
      · obtain ⟨row, hrow⟩ : ∃ row, bs[j]? = some row := ⟨_, List.getElem?_eq_getElem q⟩
        rw [elders_more hrow, List.take_append_of_le_length (by rw [elders_len, List.length_take]; omega)]
        exact ih (by omega)
      · rw [show bs.take (j + 1) = bs.take j by rw [List.take_of_length_le (by omega), List.take_of_length_le (by omega)]]
        exact ih (by omega)
theorem elders_pre_all (bs : List (List Nat)) (i : Nat) : (elders bs).take i = elders (bs.take i) := by
  by_cases h : i ≤ bs.length
  · have z := elders_pre bs i bs.length h
    rw [List.take_of_length_le (Nat.le_refl _)] at z
    exact z
  · rw [List.take_of_length_le (by rw [elders_len]; omega), List.take_of_length_le (by omega)]
theorem elders_row {bs : List (List Nat)} {c : Nat} {row : List Nat} (h : bs[c]? = some row) : (elders bs).getD c [] = elStep (elders (bs.take c)) row := by
  have hc := (List.getElem?_eq_some_iff.mp h).1
  have z : ((elders bs).take (c + 1))[c]? = (elders bs)[c]? := by
    rw [List.getElem?_take, if_pos (by omega)]
  rw [elders_pre_all, elders_more h, List.getElem?_append_right (by rw [elders_len, List.length_take]; omega), elders_len, List.length_take, show c - min c bs.length = 0 by omega] at z
  rw [List.getD_eq_getElem?_getD, ← z]
  rfl
theorem elders_getD_take {bs : List (List Nat)} {b c : Nat} (h : b < c) : (elders (bs.take c)).getD b [] = (elders bs).getD b [] := by
  rw [← elders_pre_all, List.getD_eq_getElem?_getD, List.getElem?_take, if_pos h, ← List.getD_eq_getElem?_getD]
theorem elders_mem {bs : List (List Nat)} (hv : validB bs) {c : Nat} {row : List Nat} (h : bs[c]? = some row) (x : Nat) : x ∈ (elders bs).getD c [] ↔ ∃ b ∈ row, x = b ∨ x ∈ (elders bs).getD b [] := by
  have hc := (List.getElem?_eq_some_iff.mp h).1
  rw [elders_row h, elStep_mem (fun b hb => by rw [elders_len, List.length_take]; have := hv c row h b hb; omega) (elders_lt _)]
  constructor
  · rintro ⟨b, hb, e⟩
    exact ⟨b, hb, e.imp id fun e => by rw [elders_getD_take (hv c row h b hb)] at e; exact e⟩
  · rintro ⟨b, hb, e⟩
    exact ⟨b, hb, e.imp id fun e => by rw [elders_getD_take (hv c row h b hb)]; exact e⟩
theorem elders_below {bs : List (List Nat)} {c x : Nat} (h : x ∈ (elders bs).getD c []) : x < c := by
  rw [List.getD_eq_getElem?_getD] at h
  cases e : (elders bs)[c]? with
  | none =>
    rw [e] at h
    cases h
  | some l =>
    rw [e] at h
    exact elders_lt bs c l e x h
theorem elders_trans {bs : List (List Nat)} (hv : validB bs) : ∀ (c : Nat) {x y : Nat}, y ∈ (elders bs).getD c [] → x ∈ (elders bs).getD y [] → x ∈ (elders bs).getD c [] := by
  intro c
  induction c using Nat.strongRecOn with
  | _ c ih =>
    intro x y hy hx
    have hc : c < bs.length := by
      apply Classical.byContradiction
      intro q
      rw [List.getD_eq_getElem?_getD, List.getElem?_eq_none (by rw [elders_len]; omega)] at hy
      cases hy
    obtain ⟨row, hrow⟩ : ∃ row, bs[c]? = some row := ⟨_, List.getElem?_eq_getElem hc⟩
    obtain ⟨b, hb, e⟩ := (elders_mem hv hrow y).mp hy
    refine (elders_mem hv hrow x).mpr ⟨b, hb, .inr ?_⟩
    rcases e with e | e
    · rw [← e]
      exact hx
    · exact ih b (hv c row hrow b hb) e hx
theorem nodup_sub_len' {ks ns : List Nat} (hn : ks.Nodup) (hs : ∀ k ∈ ks, k ∈ ns) : ks.length ≤ ns.length := by
  induction ks generalizing ns with
  | nil => exact Nat.zero_le _
  | cons k r ih =>
    have hk : k ∈ ns := hs k List.mem_cons_self
    obtain ⟨h1, h2⟩ := List.nodup_cons.mp hn
    have z := ih (ns := ns.erase k) h2 fun y hy => by
      have ne : y ≠ k := fun e => h1 (by rw [← e]; exact hy)
      exact (List.mem_erase_of_ne ne).mpr (hs y (List.mem_cons_of_mem _ hy))
    rw [List.length_erase_of_mem hk] at z
    have := List.length_pos_of_mem hk
    show r.length + 1 ≤ ns.length
    omega
/-- each row holds its own class last, the others below it, and the rows of all of them -/
structure KinsOk (ks : List (List Nat)) : Prop where
  up : ∀ c, c < ks.length → (ks.getD c []).Pairwise (· < ·)
  self : ∀ c, c < ks.length → c ∈ ks.getD c []
  le : ∀ c, c < ks.length → ∀ x ∈ ks.getD c [], x ≤ c
  tr : ∀ c, c < ks.length → ∀ y ∈ ks.getD c [], ∀ x ∈ ks.getD y [], x ∈ ks.getD c []
theorem kins_ok {bs : List (List Nat)} (hv : validB bs) : KinsOk (kins (elders bs)) := by
  have hl : ∀ {c}, c < (kins (elders bs)).length → c < bs.length := fun h => by
    rw [kins_len, elders_len] at h
    exact h
  have g : ∀ {c}, c < bs.length → (kins (elders bs)).getD c [] = (elders bs).getD c [] ++ [c] := fun h => kins_getD (by rw [elders_len]; exact h)
  refine ⟨fun c h => ?_, fun c h => ?_, fun c h x hx => ?_, fun c h y hy x hx => ?_⟩
  · rw [g (hl h)]
    exact (kin_up bs c (hl h)).1
  · rw [g (hl h)]
    exact List.mem_append_right _ (List.mem_singleton.mpr rfl)
  · rw [g (hl h)] at hx
    exact (kin_up bs c (hl h)).2 x hx
  · rw [g (hl h)] at hy ⊢
    have yc := (kin_up bs c (hl h)).2 y hy
    rw [g (by have := hl h; omega)] at hx
    rcases List.mem_append.mp hy with hy | hy
    · rcases List.mem_append.mp hx with hx | hx
      · exact List.mem_append_left _ (elders_trans hv c hy hx)
      · rw [List.mem_singleton.mp hx]
        exact List.mem_append_left _ hy
    · obtain rfl := List.mem_singleton.mp hy
      exact hx
/-- those of a row that have the hue of x -/
def likeH (hs : List (Option Nat)) (row : List Nat) (x : Nat) : List Nat := row.filter fun k => hueOf hs k == hueOf hs x
def depthI (ks : List (List Nat)) (hs : List (Option Nat)) (x : Nat) : Int := ((likeH hs (ks.getD x []) x).length : Int) - 1
def huedR (hs : List (Option Nat)) (row : List Nat) : List Nat := row.filter fun k => (hueOf hs k).isSome
def metOf (ks : List (List Nat)) (hs : List (Option Nat)) (k : Nat) : List Int := [(((hueOf hs k).getD 0 : Nat) : Int), depthI ks hs k]
def metR (ks : List (List Nat)) (hs : List (Option Nat)) (row : List Nat) : List (List Int) := (huedR hs row).map (metOf ks hs)
theorem mem_like {hs : List (Option Nat)} {row : List Nat} {x k : Nat} : k ∈ likeH hs row x ↔ k ∈ row ∧ hueOf hs k = hueOf hs x := by
  unfold likeH
  rw [List.mem_filter, beq_iff_eq]
theorem mem_hued {hs : List (Option Nat)} {row : List Nat} {k : Nat} : k ∈ huedR hs row ↔ k ∈ row ∧ (hueOf hs k).isSome = true := by
  unfold huedR
  rw [List.mem_filter]
theorem like_nodup {hs : List (Option Nat)} {row : List Nat} {x : Nat} (h : row.Pairwise (· < ·)) : (likeH hs row x).Nodup := up_nodup (List.Pairwise.filter _ h)
theorem met_inj {ks : List (List Nat)} {hs : List (Option Nat)} {a b : Nat} (ha : (hueOf hs a).isSome = true) (hb : (hueOf hs b).isSome = true) (h : metOf ks hs a = metOf ks hs b) : hueOf hs a = hueOf hs b ∧ depthI ks hs a = depthI ks hs b := by
  unfold metOf at h
  injection h with h1 h2
  injection h2 with h2 _
  refine ⟨?_, h2⟩
  cases ea : hueOf hs a with
  | none =>
    rw [ea] at ha
    cases ha
  | some x =>
    cases eb : hueOf hs b with
    | none =>
      rw [eb] at hb
      cases hb
    | some y =>
      rw [ea, eb] at h1
      have : x = y := by
        have h1 : (x : Int) = (y : Int) := h1
        omega
      rw [this]
/-- below in the same row and of the same hue: less deep -/
theorem depth_lt {ks : List (List Nat)} (ok : KinsOk ks) {hs : List (Option Nat)} {a b : Nat} (hb : b < ks.length) (hab : a ∈ ks.getD b []) (ne : a ≠ b) (he : hueOf hs a = hueOf hs b) : depthI ks hs a < depthI ks hs b := by
  have alt : a < b := by
    have := ok.le b hb a hab
    omega
  have z := nodup_sub_len' (ks := b :: likeH hs (ks.getD a []) a) (ns := likeH hs (ks.getD b []) b) (List.nodup_cons.mpr ⟨fun h => ?_, like_nodup (ok.up a (by omega))⟩) (fun k hk => ?_)
  · unfold depthI
    rw [List.length_cons] at z
    omega
  · have := ok.le a (by omega) b (mem_like.mp h).1
    omega
  · rcases List.mem_cons.mp hk with rfl | hk
    · exact mem_like.mpr ⟨ok.self _ hb, rfl⟩
    · obtain ⟨h1, h2⟩ := mem_like.mp hk
      exact mem_like.mpr ⟨ok.tr b hb a hab k h1, h2.trans he⟩
theorem nodup_map {α β : Type} {f : α → β} : ∀ {l : List α}, l.Nodup → (∀ a ∈ l, ∀ b ∈ l, f a = f b → a = b) → (l.map f).Nodup
  | [], _, _ => List.nodup_nil
  | x :: r, hn, hi => by
    obtain ⟨h1, h2⟩ := List.nodup_cons.mp hn
    refine List.nodup_cons.mpr ⟨fun h => ?_, nodup_map h2 fun a ha b hb => hi a (List.mem_cons_of_mem _ ha) b (List.mem_cons_of_mem _ hb)⟩
    obtain ⟨y, hy, e⟩ := List.mem_map.mp h
    have := hi y (List.mem_cons_of_mem _ hy) x List.mem_cons_self e
    rw [this] at hy
    exact h1 hy
theorem inj_of_nodup_map {α β : Type} {f : α → β} : ∀ {l : List α}, (l.map f).Nodup → ∀ a ∈ l, ∀ b ∈ l, f a = f b → a = b
  | [], _, a, ha, _, _, _ => by cases ha
  | x :: r, hn, a, ha, b, hb, e => by
    obtain ⟨h1, h2⟩ := List.nodup_cons.mp hn
    rcases List.mem_cons.mp ha with ea | ha'
    · rcases List.mem_cons.mp hb with eb | hb'
      · rw [ea, eb]
      · rw [ea] at e
        exact absurd (e ▸ List.mem_map_of_mem hb') h1
    · rcases List.mem_cons.mp hb with eb | hb'
      · rw [eb] at e
        exact absurd (e ▸ List.mem_map_of_mem ha') h1
      · exact inj_of_nodup_map h2 a ha' b hb' e
theorem condL_iff {ks : List (List Nat)} {hs : List (Option Nat)} {a b : Nat} : condL ks hs a b = true ↔ a < b ∧ (hueOf hs a).isSome = true ∧ hueOf hs a = hueOf hs b ∧ a ∉ ks.getD b [] := by
  unfold condL
  rw [Bool.and_eq_true, Bool.and_eq_true, Bool.and_eq_true, decide_eq_true_eq, beq_iff_eq, Bool.not_eq_true', ← Bool.not_eq_true, List.contains_iff_mem]
/-- unlike depths: where u is not below v it is no less deep -/
theorem depth_ge {ks : List (List Nat)} (ok : KinsOk ks) {hs : List (Option Nat)} {c : Nat} (hc : c < ks.length) (hn : (metR ks hs (ks.getD c [])).Nodup) {u v : Nat} (hu : u ∈ ks.getD c []) (hv : v ∈ ks.getD c []) (hs1 : (hueOf hs u).isSome = true) (he : hueOf hs u = hueOf hs v) (hno : u ∉ ks.getD v []) : ¬ depthI ks hs u < depthI ks hs v := by
  intro hlt
  have vc := ok.le c hc v hv
  have inj : ∀ x ∈ likeH hs (ks.getD c []) v, ∀ y ∈ likeH hs (ks.getD c []) v, depthI ks hs x = depthI ks hs y → x = y := fun x hx y hy e => by
    obtain ⟨x1, x2⟩ := mem_like.mp hx
    obtain ⟨y1, y2⟩ := mem_like.mp hy
    have hxs : (hueOf hs x).isSome = true := by rw [x2, ← he]; exact hs1
    have hys : (hueOf hs y).isSome = true := by rw [y2, ← he]; exact hs1
    refine inj_of_nodup_map hn x (mem_hued.mpr ⟨x1, hxs⟩) y (mem_hued.mpr ⟨y1, hys⟩) ?_
    unfold metOf
    rw [x2, y2, e]
  -- the less deep ones of this row
  let T := (likeH hs (ks.getD c []) v).filter fun x => decide (depthI ks hs x < depthI ks hs v)
  have memT : ∀ x, x ∈ T ↔ (x ∈ ks.getD c [] ∧ hueOf hs x = hueOf hs v) ∧ depthI ks hs x < depthI ks hs v := fun x => by
    show x ∈ List.filter _ _ ↔ _
    rw [List.mem_filter, mem_like, decide_eq_true_eq]
  have d0 : ∀ x, x ∈ ks.getD c [] → 0 ≤ depthI ks hs x := fun x hx => by
    have xc := ok.le c hc x hx
    have : 0 < (likeH hs (ks.getD x []) x).length := List.length_pos_of_mem (mem_like.mpr ⟨ok.self x (by omega), rfl⟩)
    unfold depthI
    omega
  have nT : T.Nodup := List.Pairwise.filter _ (like_nodup (ok.up c hc))
  have small : T.length ≤ (depthI ks hs v).toNat := by
    have z := nodup_sub_len' (ks := T.map fun x => (depthI ks hs x).toNat) (ns := List.range (depthI ks hs v).toNat) (nodup_map nT fun x hx y hy e => ?_) (fun k hk => ?_)
    · rw [List.length_map, List.length_range] at z
      exact z
    · obtain ⟨⟨x1, x2⟩, _⟩ := (memT x).mp hx
      obtain ⟨⟨y1, y2⟩, _⟩ := (memT y).mp hy
      have q1 := d0 x x1
      have q2 := d0 y y1
      exact inj x (mem_like.mpr ⟨x1, x2⟩) y (mem_like.mpr ⟨y1, y2⟩) (by have e : (depthI ks hs x).toNat = (depthI ks hs y).toNat := e; omega)
    · obtain ⟨x, hx, rfl⟩ := List.mem_map.mp hk
      obtain ⟨⟨x1, _⟩, x3⟩ := (memT x).mp hx
      have q1 := d0 x x1
      rw [List.mem_range]
      omega
  have lv : (likeH hs (ks.getD v []) v).Nodup := like_nodup (ok.up v (by omega))
  have vin : v ∈ likeH hs (ks.getD v []) v := mem_like.mpr ⟨ok.self v (by omega), rfl⟩
  have big := nodup_sub_len' (ks := u :: (likeH hs (ks.getD v []) v).erase v) (ns := T) (List.nodup_cons.mpr ⟨fun h => hno (mem_like.mp (List.mem_of_mem_erase h)).1, lv.erase v⟩) (fun k hk => ?_)
  · rw [List.length_cons, List.length_erase_of_mem vin] at big
    have := List.length_pos_of_mem vin
    unfold depthI at small
    omega
  · rcases List.mem_cons.mp hk with rfl | hk
    · exact (memT _).mpr ⟨⟨hu, he⟩, hlt⟩
    · obtain ⟨ne, hk⟩ := (lv.mem_erase_iff).mp hk
      obtain ⟨k1, k2⟩ := mem_like.mp hk
      exact (memT k).mpr ⟨⟨ok.tr c hc v hv k k1, k2⟩, depth_lt ok (by omega) k1 ne k2⟩
/-- no clash exactly if no row has two of one hue at one depth -/
theorem clash_iff {ks : List (List Nat)} (ok : KinsOk ks) (hs : List (Option Nat)) (c : Nat) (hc : c < ks.length) : (∀ a ∈ ks.getD c [], ∀ b ∈ ks.getD c [], condL ks hs a b = false) ↔ (metR ks hs (ks.getD c [])).Nodup := by
  constructor
  · intro h
    have main : ∀ a b, a ∈ ks.getD c [] → b ∈ ks.getD c [] → (hueOf hs a).isSome = true → (hueOf hs b).isSome = true → metOf ks hs a = metOf ks hs b → ¬ a < b := fun a b ha hb sa sb e lt => by
      obtain ⟨e1, e2⟩ := met_inj sa sb e
      have bc := ok.le c hc b hb
      have inb : a ∈ ks.getD b [] := by
        apply Classical.byContradiction
        intro q
        have z := h a ha b hb
        rw [condL_iff.mpr ⟨lt, sa, e1, q⟩] at z
        cases z
      have := depth_lt ok (by omega) inb (by omega) e1
      omega
    refine nodup_map (up_nodup (List.Pairwise.filter _ (ok.up c hc))) fun a ha b hb e => ?_
    obtain ⟨a1, a2⟩ := mem_hued.mp ha
    obtain ⟨b1, b2⟩ := mem_hued.mp hb
    have z1 := main a b a1 b1 a2 b2 e
    have z2 := main b a b1 a1 b2 a2 e.symm
    omega
  · intro h a ha b hb
    apply Classical.byContradiction
    intro q
    have q : condL ks hs a b = true := by
      cases e : condL ks hs a b with
      | false => exact absurd e q
      | true => rfl
    obtain ⟨lt, sa, e, no⟩ := condL_iff.mp q
    have bc := ok.le c hc b hb
    have n1 := depth_ge ok hc h ha hb sa e no
    have n2 := depth_ge ok hc h hb ha (by rw [← e]; exact sa) e.symm (fun z => by have := ok.le a (by omega) b z; omega)
    have : metOf ks hs a = metOf ks hs b := by
      unfold metOf
      rw [e, show depthI ks hs a = depthI ks hs b by omega]
    have := inj_of_nodup_map h a (mem_hued.mpr ⟨ha, sa⟩) b (mem_hued.mpr ⟨hb, by rw [← e]; exact sa⟩) this
    omega
/-- the first clash of all rows -/
def FirstC (ks : List (List Nat)) (hs : List (Option Nat)) (o : Option (List Nat)) : Prop :=
  (o = none ∧ ∀ c < ks.length, Least (condL ks hs) (ks.getD c []) none) ∨ ∃ c a b, o = some [c, a, b] ∧ c < ks.length ∧ (∀ c' < c, Least (condL ks hs) (ks.getD c' []) none) ∧ Least (condL ks hs) (ks.getD c []) (some [a, b])
theorem FirstC.one {ks : List (List Nat)} {hs : List (Option Nat)} {o o' : Option (List Nat)} (h : FirstC ks hs o) (h' : FirstC ks hs o') : o = o' := by
  rcases h with ⟨rfl, h⟩ | ⟨c, a, b, rfl, h1, h2, h3⟩
  · rcases h' with ⟨rfl, _⟩ | ⟨c, a, b, rfl, h1, h2, h3⟩
    · rfl
    · cases (h c h1).one h3
  · rcases h' with ⟨rfl, h⟩ | ⟨c', a', b', rfl, h1', h2', h3'⟩
    · cases (h c h1).one h3
    · have e : c = c' := by
        apply Classical.byContradiction
        intro q
        by_cases l : c < c'
        · cases (h2' c l).one h3
        · cases (h2 c' (by omega)).one h3'
      subst e
      have z := h3.one h3'
      injection z with z
      rw [z]
theorem FirstC.none_iff {ks : List (List Nat)} (ok : KinsOk ks) {hs : List (Option Nat)} {o : Option (List Nat)} (h : FirstC ks hs o) : o = none ↔ ∀ row ∈ ks, (metR ks hs row).Nodup := by
  have none_of : ∀ c, Least (condL ks hs) (ks.getD c []) none ↔ ∀ a ∈ ks.getD c [], ∀ b ∈ ks.getD c [], condL ks hs a b = false := fun c => by
    constructor
    · rintro (⟨_, h⟩ | ⟨a, b, h, _⟩)
      · exact h
      · cases h
    · intro h
      exact .inl ⟨rfl, h⟩
  constructor
  · rintro rfl row hr
    obtain ⟨c, hc⟩ := List.mem_iff_getElem?.mp hr
    have hl := (List.getElem?_eq_some_iff.mp hc).1
    have e : ks.getD c [] = row := by
      rw [List.getD_eq_getElem?_getD, hc]
      rfl
    rcases h with ⟨_, h⟩ | ⟨_, _, _, z, _⟩
    · have z := (clash_iff ok hs c hl).mp ((none_of c).mp (h c hl))
      rw [e] at z
      exact z
    · cases z
  · intro hm
    rcases h with ⟨rfl, _⟩ | ⟨c, a, b, rfl, h1, h2, h3⟩
    · rfl
    · have e : ks.getD c [] ∈ ks := by
        rw [List.getD_eq_getElem?_getD, List.getElem?_eq_getElem h1]
        exact List.getElem_mem h1
      have z := (none_of c).mpr ((clash_iff ok hs c h1).mpr (hm _ e))
      cases z.one h3
end K59

set_option maxRecDepth 100000
set_option maxHeartbeats 4000000
namespace K59
open PySem PySem.Spec PyProof.Rows L2 Kw
/-- the facts of a world that others read: the object's fields -/
theorem WorldAt.mono {H H' : Hp} {p C : Addr} {ds : List Ent} (h : WorldAt H p C ds) (s : Same H H') : WorldAt H' p C ds := by
  obtain ⟨dx, ac, ab, ao, am, ae, ah, cs, bs, ms, es, hs, h1, h2, h3, h4, h5, h6, h7, h8, h9, h10, h11, h12⟩ := h
  exact ⟨dx, ac, ab, ao, am, ae, ah, cs, bs, ms, es, hs, s _ _ h1, s _ _ h2, h3.mono (Same.tupK s), s _ _ h4, h5.mono (Same.tupK s), s _ _ h6, s _ _ h7, h8.mono (Same.tupK s), s _ _ h9, h10.mono (Same.tupK s), s _ _ h11, h12.mono (Same.tupK s)⟩
section
variable {P : Program} {w : World} {K : PySem.W.Frag} {mg : Str → Option Value} {base : Heap} {f fW fN fC C Cn : Addr} {fd fdW fdN fdC : FuncData}
theorem sc_noClass : FnScope ["self", "cls"] ["self", "cls"] (defScope (inClass (top 4) 0)) := ⟨rfl, rfl, rfl, by decide +kernel, rfl, by decide +kernel, by decide +kernel⟩
theorem ok_noClass (F : FnM K "__init__" "NoClass.__init__" (inClass (top 4) 0) f fd) (T : ErrX K mg "NoClass" ["cls"] C f) : FnOk P w K mg base CX0 1 f fd ["self", "cls"] (spR C ["cls"]) ∧ Binds K fd ["self", "cls"] [] := by
  refine ⟨F.ok sc_noClass (fun vs H Q E h => ?_) (fun cdv A outer s H vs Q E hr h => ?_), F.bindsN fun _ _ _ _ _ _ us hl => match us, hl with | [_, _], _ => rfl⟩
  · obtain ⟨a, xs, rfl, hl, _⟩ := h
    exact congrArg Nat.succ hl
  · obtain ⟨a, xs, rfl, hl, ha, k⟩ := h
    match xs, hl with
    | [x1], _ =>
      refine ⟨_, PSs.nox (pss_one (ps_ost (pv 0) (pv 1))), ?_⟩
      refine ⟨_, rfl, _, rfl, a, C, rfl, T.oex, T.no _ (List.mem_of_getElem? (i := 0) rfl), .inl ⟨ha, fun dx hd ne => ?_⟩⟩
      exact k dx _ hd ne upd_same (upB ne upd_same) fun b o hb e => upB hb (upB (ne_of_none e hd) e)
/-- a class is told, or NoClass -/
def spCheck (C Cn : Addr) : Sp := fun vs H Q E => ∃ (p : Addr) (c : V) (t : String) (ds : List Ent), vs = [.ref p, c] ∧ WorldAt H p C ds ∧ Ty0 H c t ∧
  ((wholeB (.int 0) (.int ((ds.length : Int) - 1)) c = true ∧ ∀ H', Same H H' → Q c H') ∨
   (wholeB (.int 0) (.int ((ds.length : Int) - 1)) c = false ∧ ∀ d H', Same H H' → H' d = some (.xd (errF ["cls"] [c])) → E (.ref Cn) (some d) H'))
theorem sc_check : FnScope ["world", "c"] ["world", "c"] (defScope (top 12)) := ⟨rfl, rfl, rfl, by decide +kernel, rfl, by decide +kernel, by decide +kernel⟩
theorem ok_check (F : FnP K "check_class" 12 f fd) (B : Fr mg) (TC : ClsWorld K mg C) (FW : FnDf K "is_whole" 9 [.non, .non] fW fdW) (mW : mg "is_whole" = some (.ref fW)) (FN : FnM K "__init__" "NoClass.__init__" (inClass (top 4) 0) fN fdN) (TN : ErrX K mg "NoClass" ["cls"] Cn fN) :
    FnOk P w K mg base (L2.CX P w) 3 f fd ["world", "c"] (spCheck C Cn) := by
  have GW : FnOk P w K mg base CX0 1 fW fdW ["thing", "low", "high"] spWhole := ok_whole FW B
  obtain ⟨GN, bN⟩ : FnOk P w K mg base CX0 1 fN fdN ["self", "cls"] (spR Cn ["cls"]) ∧ Binds K fdN ["self", "cls"] [] := ok_noClass FN TN
  have bW := binds_whole3 FW
  refine F.ok sc_check (fun vs H Q E h => ?_) (fun cdv A outer s H vs Q E hr h => ?_)
  · obtain ⟨p, c, t, ds, rfl, _⟩ := h
    rfl
  · obtain ⟨p, c, t, ds, rfl, hw, ty, h⟩ := h
    have hw0 := hw
    obtain ⟨dx, ac, ab, ao, am, ae, ah, cs, bs, ms, es, hs, h1, h2, h3, _⟩ := hw
    refine ⟨_, (pss_cons (ps_if (pt_not (pt_val (pe_call GW (hr.mono (by decide)) (by rfl) mW FW.kp bW .nil pass0 (pa_cons (pv 1) (pa_cons pe_int (pa_cons (pe_op op_sub (pe_callB call_len_seq (by rfl) B.len PySem.boot_len (pa_cons (pe_fld (pv 0) rfl) pa_nil)) pe_int) pa_nil))))))
        (pss_one (ps_raise rfl (takes_of rfl rfl rfl rfl) (pmk_oex TN.oex TN.ini TN.inT GN (hr.mono (by decide)) bN .nil pass0 (by rfl) TN.mg (pa_cons (pv 1) pa_nil)))) pss_nil)
      (pss_one (ps_ret (pv 1)))), ?_⟩
    refine ⟨_, rfl, _, rfl, p, C, dx, _, _, rfl, h1, TC.cl, TC.no _ (List.mem_of_getElem? (i := 0) rfl), rfl, ac, cs, rfl, .inr (SqT.of h2), _, _, rfl, rfl, c, _, _, t, rfl, ty, .inr ⟨_, rfl⟩, .inr ⟨_, rfl⟩, _, rfl, ?_⟩
    rw [h3.len]
    rcases h with ⟨e, k⟩ | ⟨e, k⟩
    · rw [e]
      exact iteF ⟨_, rfl, k H (Same.refl H)⟩
    · rw [e]
      exact iteT ⟨_, rfl, raise_q rfl (by decide) fun d H' s1 _ e => k d H' s1 e⟩
end
end K59

set_option maxRecDepth 100000
set_option maxHeartbeats 4000000
namespace K59
open PySem PySem.Spec PyProof.Rows L2 Kw
section
variable {P : Program} {w : World} {K : PySem.W.Frag} {mg : Str → Option Value} {base : Heap} {f fT fM : Addr} {fd fdT fdM : FuncData}
def spRow : Sp := fun vs H Q _ => ∃ (p q a : Addr) (xs : List V), vs = [.ref p, .ref a] ∧ HandAt H p q ∧ a ≠ p ∧ SeqAt H a xs ∧
  ∀ l H', Oth p H H' → HandAt H' p q → ((H l = none ∧ H' l = some (.lst xs)) ∨ H' l = some (.tup xs)) → Q (.ref l) H'
end
end K59

set_option maxRecDepth 100000
set_option maxHeartbeats 4000000
namespace Kw
open PySem PySem.Spec PyProof.Rows L2
section
variable {X : Cx} {CX : CXT} {k : Nat} {fI C : Addr} {fd : FuncData} {ps : List Str} {sp : Sp} {x : Str} {p pos : Pos} {e : Expr} {es : List Expr} {ta : TA}
/-- C(e, ..), an own class whose __init__ may raise, where σ tells what the raising asks -/
theorem made_at {W : XK} {pins : List (Addr × Obj)} {σ : L2.St} {H : Hp} {s : Shared} {Q : VK} {us : List Value} {vs : List V} (M : Mk X.K C fI) (G : FnOk X.prog X.w X.K X.mg X.base CX k fI fd ps sp)
    (room : Room (k + 1) X.A) (bd : Binds X.K fd ps []) (out : PassesAt CX X σ W) (I : Inv X pins σ H s) (rel : Vals vs us)
    (q : ∀ o dx, H o = none → H dx = none → dx ≠ o → sp (.ref o :: vs) (upd (upd H dx (.own o)) o (.ins C dx [])) (fun v H2 => v = .non ∧ Q (.ref o) H2) W) :
    wpAny (model X.prog X.w) X.A (call (.ref C) us) (EP X pins σ Q) X.xe s := by
  generalize en : s.heap.objs.size = n at *
  have J := Inv.made (C := C) I
  rw [en] at J
  have f1 : H (n + 1) = none := I.hok.fresh (by rw [en]; exact Nat.le_succ _)
  have f2 : H n = none := I.hok.fresh (by rw [en]; exact Nat.le_refl _)
  have go := q (n + 1) n f1 f2 (Nat.ne_of_lt (Nat.lt_succ_self _))
  have rel2 : Vals (V.ref (n + 1) :: vs) (Value.ref (n + 1) :: us) := .cons rfl rel
  have len : (Value.ref (n + 1) :: us ++ []).length = ps.length := by
    rw [List.append_nil, ← rel2.length]
    exact G.len _ _ _ _ go
  have b2 := bd _ (Value.ref (n + 1) :: us) J.kIn len
  rw [List.append_nil] at b2
  have ran := G.run _ X.stack _ _ ⟨Value.ref (n + 1) :: us, []⟩ (Value.ref (n + 1) :: us) _ _ W (room.make C us []) (J.env0.make C us []) b2 rel2 go
  refine wpAny_call (make_map (f := fI) I.kIn M.makes M.init (beq_iff_eq.mp M.fn) ?_)
  rw [en]
  refine codeAny_mono ran fun r s' z => ?_
  cases r with
  | error er => exact out pins _ _ er s' J z
  | ok fl =>
    cases fl with
    | ret u =>
      obtain ⟨v, H3, I3, rv, ev, q3⟩ := J.after z
      subst ev
      exact ⟨rv, .ref (n + 1), H3, I3, rfl, q3⟩
    | next => exact False.elim z
    | brk => exact False.elim z
    | cont => exact False.elim z
def tMadeS (C : Addr) (sp : Sp) (W : L2.St → XK) (ta : TA) : TE := fun σ H Q => ta σ H fun vs H1 => ∀ o dx, H1 o = none → H1 dx = none → dx ≠ o → sp (.ref o :: vs) (upd (upd H1 dx (.own o)) o (.ins C dx [])) (fun v H2 => v = .non ∧ Q (.ref o) H2) (W σ)
theorem pe_madeS {W : L2.St → XK} (M : Mk X.K C fI) (G : FnOk X.prog X.w X.K X.mg X.base CX k fI fd ps sp) (room : Room (k + 1) X.A) (hg : Gl X x) (hm : X.mg x = some (.ref C)) (bd : Binds X.K fd ps []) (out : ∀ σ, PassesAt CX X σ (W σ))
    (ha : PA X (e :: es) ta) (hdb : (x == ("__debug__" : Str)) = false := by decide) (he : starEach (e :: es) X.env = (false, eval e X.env) :: starEach es X.env := by rfl) (hpl : (backTo pos (starEach es X.env)).any (·.1) = false := by rfl) :
    PE X (.Call (.Name x p) (e :: es) [] pos) (tMadeS C sp W ta) := by
  refine ⟨fun pins s σ H Q I h => wpAny_Call_Name_kw (ld_glob I hg hm ?_ hdb)⟩
  refine PySem.W.callWith_K (h₀ := X.base) I.ok.mod.kin M.kp (thn (ha.run pos pins s σ H _ I h) fun us s1 ⟨vs, H1, I1, r1, q1⟩ => ?_) he hpl
  exact ⟨I1.kIn, made_at M G room bd (out σ) I1 r1 q1⟩
variable {o : Expr} {to : TE} {m : Str} {apos : Pos}
/-- o.m(e, ..), a method that may raise, where σ tells what the raising asks -/
def tMethU (C : Addr) (m : Str) (sp : Sp) (W : L2.St → XK) (to : TE) (ta : TA) : TE := fun σ H Q => to σ H fun x H1 => ∃ a dx fs, x = .ref a ∧ H1 a = some (.ins C dx fs) ∧ fs.lookup m = none ∧ ta σ H1 fun vs H2 => sp (.ref a :: vs) H2 Q (W σ)
theorem pe_methU {W : L2.St → XK} {pl : Sem Bool} (ho : PE X o to) (cl : Cls X.K C) (mt : Meth X.K C m fI) (G : FnOk X.prog X.w X.K X.mg X.base CX k fI fd ps sp) (room : Room k X.A) (bd : Binds X.K fd ps []) (out : ∀ σ, PassesAt CX X σ (W σ)) (args : PA X (e :: es) ta)
    (h1 : starEach (e :: es) X.env = (false, eval e X.env) :: starEach es X.env := by rfl) (h2 : (backTo pos (starEach es X.env)).any (·.1) = false := by rfl)
    (way : eval (.Call (.Attribute o m apos) (e :: es) [] pos) X.env = (do let ov ← eval o X.env; standAt apos.atName; let (f, first) ← holding [ov] (getMethod ov m pl); callWith pos f first (backTo pos (starEach (e :: es) X.env)) (backToKw pos (keywordEach [] X.env))) := by rfl) :
    PE X (.Call (.Attribute o m apos) (e :: es) [] pos) (tMethU C m sp W to ta) := by
  refine ⟨fun pins s σ H Q I h => PySem.W.methodCall_KW (pl := pl) (thn (ho.run pins s σ H _ I h) fun u s1 z => ?_) way⟩
  obtain ⟨x, H1, I1, rx, a, dx, fs, rfl, ea, l, q⟩ := z
  obtain rfl : u = Value.ref a := rx
  refine getmeth_ok I1 ea cl mt l (PySem.W.callWith_K (first := [.ref a]) (h₀ := X.base) I.ok.mod.kin mt.kp (thn (args.run pos pins s1 σ H1 _ I1 q) fun us s2 z => ?_) h1 h2)
  obtain ⟨vs, H2, I2, r, q2⟩ := z
  exact ⟨I2.kIn, run_fnS (us := .ref a :: us) (vs := .ref a :: vs) G room bd (out σ) I2 (.cons rfl r) q2⟩
end
end Kw

set_option maxRecDepth 100000
set_option maxHeartbeats 4000000
namespace Kw
open PySem PySem.Spec PyProof.Rows L2
/-- len(set(xs)), xs a list of tuples of ints: as many as unlike ones -/
def tLenSetT (K : PySem.W.Frag) (ta : TE) : TE := fun σ H Q => ta σ H fun x H1 => ∃ (l : Addr) (ks : List (Addr × List Int)), x = V.ref l ∧ SqL K H1 l (ks.map fun p => V.ref p.1) ∧ (∀ p ∈ ks, SqT K H1 p.1 (p.2.map V.int)) ∧ ks.length < 64 ∧
  ∀ n : Nat, (n = ks.length ↔ (ks.map (·.2)).Nodup) → Q (.int n) H1
theorem nodup_sub_len {α : Type} [DecidableEq α] : ∀ {ks ns : List α}, ks.Nodup → (∀ k ∈ ks, k ∈ ns) → ks.length ≤ ns.length
  | [], _, _, _ => Nat.zero_le _
  | k :: r, ns, hn, hs => by
    have hk : k ∈ ns := hs k List.mem_cons_self
    obtain ⟨h1, h2⟩ := List.nodup_cons.mp hn
    have ih := nodup_sub_len (ks := r) (ns := ns.erase k) h2 fun y hy => by
      have ne : y ≠ k := fun e => h1 (by rw [← e]; exact hy)
      exact (List.mem_erase_of_ne ne).mpr (hs y (List.mem_cons_of_mem _ hy))
    rw [List.length_erase_of_mem hk] at ih
    have := List.length_pos_of_mem hk
    show r.length + 1 ≤ ns.length
    omega
theorem nodup_of_sub_len {α : Type} [DecidableEq α] : ∀ {ns ks : List α}, ks.Nodup → (∀ k ∈ ks, k ∈ ns) → ns.length ≤ ks.length → ns.Nodup
  | [], _, _, _, _ => List.nodup_nil
  | n :: r, ks, hn, hs, hl => by
    by_cases hr : n ∈ r
    · have z := nodup_sub_len (ks := ks) (ns := r) hn fun k hk => by
        rcases List.mem_cons.mp (hs k hk) with e | e
        · rw [e]; exact hr
        · exact e
      have : r.length + 1 ≤ ks.length := hl
      omega
    · refine List.nodup_cons.mpr ⟨hr, nodup_of_sub_len (ks := ks.erase n) (hn.erase n) (fun k hk => ?_) ?_⟩
      · have h1 := (hn.mem_erase_iff).mp hk
        rcases List.mem_cons.mp (hs k h1.2) with e | e
        · exact absurd e h1.1
        · exact e
      · have h2 : r.length + 1 ≤ ks.length := hl
        by_cases hm : n ∈ ks
        · rw [List.length_erase_of_mem hm]
          omega
        · rw [List.erase_of_not_mem hm]
          omega
theorem pe_lenSetT {X : Cx} {a : Expr} {ta : TE} {p p2 q pos : Pos} (hu : X.A.units + 64 < cLine) (hg : Gl X "len") (hm : X.mg "len" = none) (hg2 : Gl X "set") (hm2 : X.mg "set" = none) (ha : PE X a ta) (hc : X.calm = true := by rfl)
    (na : starEach [a] X.env = (false, eval a X.env) :: starEach [] X.env := by rfl) : PE X (.Call (.Name "len" p) [.Call (.Name "set" p2) [a] [] q] [] pos) (tLenSetT X.K ta) := by
  refine ⟨fun pins s σ H Q I h => Call_ (ld_blt I hg hm PySem.boot_len ?_)⟩
  refine callWith_builtin1 (args_cons (Call_ (ld_blt I hg2 hm2 PyProof.Rows.boot_set ?_)) rfl) rfl rfl
  refine callWith_type1 (args_cons (thn (ha.run pins s σ H _ I h) fun v s1 ⟨x, H1, I1, r1, q1⟩ => args_nil ?_) na) na rfl
  obtain ⟨l, ks, ex, hq, hk, hf, q2⟩ := q1
  subst ex
  obtain rfl : v = Value.ref l := r1
  obtain ⟨its, rv, pl, hz⟩ := I1.list hq
  refine call_set_tups (P := X.prog) (w := X.w) ks (I1.ok.hd hc) pl.isList (by simpa using refs_of_vals rv) (fun p hp => I1.isT (hk p hp)) hf (by omega) fun h' tk L es ep t R g k => args_nil ?_
  obtain ⟨o, ho, hex, hd⟩ := R.ob
  have sz := SetTR.size (s := { s1 with heap := h', toks := tk }) R
  have I2 : Inv X pins σ H1 { s1 with heap := h', toks := tk } := I1.kept fun b o e => k b o e
  have key : L.length = ks.length ↔ (ks.map (·.2)).Nodup := by
    have sub : ∀ x ∈ L.map (·.2), x ∈ ks.map (·.2) := fun x hx => by
      obtain ⟨p, hp, rfl⟩ := List.mem_map.mp hx
      exact List.mem_map_of_mem (List.mem_of_mem_take (g.sub p hp))
    have all : ∀ x ∈ ks.map (·.2), x ∈ L.map (·.2) := fun x hx => by
      obtain ⟨p, hp, rfl⟩ := List.mem_map.mp hx
      exact g.all p (by rw [List.take_length]; exact hp)
    have l1 := nodup_sub_len R.nd sub
    rw [List.length_map, List.length_map] at l1
    constructor
    · intro e
      refine nodup_of_sub_len R.nd sub ?_
      rw [List.length_map, List.length_map, e]
      exact Nat.le_refl _
    · intro hn
      have l2 := nodup_sub_len hn all
      rw [List.length_map, List.length_map] at l2
      omega
  exact call_len_set ho hex hd (SetTR.fits (s := { s1 with heap := h', toks := tk }) R) (by have := R.few; rw [sz]; omega) ⟨.int es.size, H1, I2.tok _, ⟨_, rfl⟩, q2 es.size (by rw [sz]; exact key)⟩
end Kw

set_option maxRecDepth 100000
set_option maxHeartbeats 8000000
namespace K59
open PySem PySem.Spec PyProof.Rows L2 Kw
/-! the general parts of e2, s4, s6, s8, s9, s10, t1, t3, v4, t5, u1, u2, u5, u7, v8, u11: for laws that have no hues (made by a script out of those) -/
def onLine (els : List (List Nat)) (x y : Nat) : Bool := decide (x = y) || ((els.getD y []).contains x || (els.getD x []).contains y)
def elsOf (ds : List Ent) : List (List Nat) := elders (ds.map (·.1))
theorem elsOf_len (ds : List Ent) : (elsOf ds).length = ds.length := by
  unfold elsOf
  rw [elders_len, List.length_map]
theorem WorldAt.elder {H : Hp} {p C : Addr} {ds : List Ent} (h : WorldAt H p C ds) {x : Nat} (hx : x < ds.length) : ∃ (dx : Addr) (fs : List (Str × V)) (ae : Addr) (es : List V) (t : Addr), H p = some (.ins C dx fs) ∧ List.lookup ("elders" : Str) fs = some (V.ref ae) ∧ H ae = some (.tup es) ∧ es[x]? = some (.ref t) ∧ H t = some (.tup (((elsOf ds).getD x []).map natV)) := by
  obtain ⟨dx, ac, ab, ao, am, ae, ah, cs, bs, ms, es, hs, h1, h2, h3, h4, h5, h6, h7, h8, h9, h10, h11, h12⟩ := h
  obtain ⟨l, hl⟩ : ∃ l, (elsOf ds)[x]? = some l := ⟨_, List.getElem?_eq_getElem (by rw [elsOf_len]; exact hx)⟩
  obtain ⟨t, e1, e2⟩ := h10.get hl
  refine ⟨dx, _, ae, es, t, h1, rfl, h9, e1, ?_⟩
  rw [List.getD_eq_getElem?_getD, hl]
  exact e2
theorem whole_nat {n : Nat} {c : V} (h : wholeB (.int 0) (.int ((n : Int) - 1)) c = true) : ∃ x : Nat, c = natV x ∧ x < n := by
  cases c with
  | int i =>
    unfold wholeB inLo inHi at h
    simp only [Bool.and_eq_true, decide_eq_true_eq] at h
    exact ⟨i.toNat, by (show V.int i = V.int _); congr 1; omega, by omega⟩
  | _ => cases h
theorem iteT' {c : Bool} {A B : Prop} (h : c = true) (a : A) : if c = true then A else B := by
  rw [if_pos h]
  exact a
theorem iteF' {c : Bool} {A B : Prop} (h : c = false) (b : B) : if c = true then A else B := by
  rw [if_neg (by rw [h]; decide)]
  exact b
theorem whole_of {n x : Nat} (h : x < n) : wholeB (.int 0) (.int ((n : Int) - 1)) (natV x) = true := by
  show wholeB (.int 0) (.int ((n : Int) - 1)) (.int (x : Int)) = true
  unfold wholeB inLo inHi
  simp only [Bool.and_eq_true, decide_eq_true_eq]
  omega
/-- a class of one's own, by the fields it keeps -/
structure ClsF (K : PySem.W.Frag) (C : Addr) (fs : List Str) : Prop where
  cl : Cls K C
  no : ∀ f ∈ fs, NoAttr K C f
theorem cut_tail (xs : List V) (i : Nat) (h : i < xs.length) : ¬ (HT.sIx xs.length 0 (some ((i : Int) + 1)) = 0 ∧ HT.sIx xs.length xs.length none = xs.length) ∧ cutV xs (some ((i : Int) + 1)) none = xs.drop (i + 1) := by
  have e : ((i : Int) + 1) = ((i + 1 : Nat) : Int) := by omega
  rw [e]
  constructor
  · rw [HT.sIx_nat]
    omega
  · unfold cutV
    rw [HT.sIx_nat, HT.sIx_none, Nat.min_eq_left (by omega), List.take_of_length_le (by rw [List.length_drop]; exact Nat.le_refl _)]
theorem kins_els {ds : List Ent} {x : Nat} (h : x < ds.length) : (kins (elsOf ds)).getD x [] = (elsOf ds).getD x [] ++ [x] := kins_getD (by rw [elsOf_len]; exact h)
theorem line_kin {ds : List Ent} {a b : Nat} (hab : a < b) (hb : b < ds.length) : onLine (elsOf ds) a b = ((kins (elsOf ds)).getD b []).contains a := by
  rw [kins_els hb]
  unfold onLine
  have e1 : decide (a = b) = false := decide_eq_false (by omega)
  have e2 : ((elsOf ds).getD a []).contains b = false := by
    cases e : ((elsOf ds).getD a []).contains b with
    | false => rfl
    | true =>
      have := elders_below (List.contains_iff_mem.mp e)
      omega
  rw [e1, e2, Bool.false_or, Bool.or_false, Bool.eq_iff_iff, List.contains_iff_mem, List.contains_iff_mem, List.mem_append, List.mem_singleton]
  exact ⟨.inl, fun h => h.resolve_right (by omega)⟩
def LayD (n : Nat) (d : PyData) : Prop := d.canLay0 = true ∧ d.depth ≤ n
theorem lay_all {n : Nat} : ∀ {ds : List PyData}, (∀ d ∈ ds, LayD n d) → PyData.canLayAll0 ds = true ∧ PyData.depthAll ds ≤ n
  | [], _ => ⟨by simp [PyData.canLayAll0], by simp [PyData.depthAll]⟩
  | d :: r, h => by
    obtain ⟨h1, h2⟩ := h d List.mem_cons_self
    obtain ⟨h3, h4⟩ := lay_all (ds := r) fun x hx => h x (List.mem_cons_of_mem _ hx)
    refine ⟨by simp [PyData.canLayAll0, h1, h3], ?_⟩
    simp only [PyData.depthAll]
    omega
theorem LayD.tup {n : Nat} {ds : List PyData} (h : ∀ d ∈ ds, LayD n d) : LayD (n + 1) (.tuple ds) := by
  obtain ⟨h1, h2⟩ := lay_all h
  refine ⟨by simp [PyData.canLay0, h1], ?_⟩
  simp only [PyData.depth]
  omega
theorem LayD.int {n : Nat} (i : Int) : LayD n (.int i) := ⟨by simp [PyData.canLay0], by simp [PyData.depth]⟩
theorem LayD.shaped {n : Nat} {d : PyData} (h : LayD n d) (hn : n ≤ 64) : SeqAt.shaped d = true := by
  show (d.canLay0 && decide (d.depth ≤ 64)) = true
  rw [Bool.and_eq_true]
  exact ⟨h.1, decide_eq_true (Nat.le_trans h.2 hn)⟩
theorem LayD.refl {n : Nat} {d : PyData} (h : LayD n d) : PyData.eqv d d = true := SeqAt.eqv_refl d h.1
def dN (n : Nat) : PyData := .int (n : Int)
def dNs (l : List Nat) : PyData := .tuple (l.map dN)
def dNss (ls : List (List Nat)) : PyData := .tuple (ls.map dNs)
def dEnt (d : Ent) : PyData := .tuple [dNs d.1, dN d.2.1, dNs (sortN d.2.2)]
def dEnts (ds : List Ent) : PyData := .tuple (ds.map dEnt)
theorem lay_ns (l : List Nat) : LayD 1 (dNs l) := LayD.tup fun d hd => by
  obtain ⟨n, _, rfl⟩ := List.mem_map.mp hd
  exact .int _
theorem LayD.le {n m : Nat} {d : PyData} (h : LayD n d) (k : n ≤ m) : LayD m d := ⟨h.1, Nat.le_trans h.2 k⟩
theorem lay_nss (ls : List (List Nat)) : LayD 2 (dNss ls) := LayD.tup fun d hd => by
  obtain ⟨n, _, rfl⟩ := List.mem_map.mp hd
  exact lay_ns n
theorem lay_ent (e : Ent) : LayD 2 (dEnt e) := LayD.tup fun d hd => by
  rcases List.mem_cons.mp hd with rfl | hd
  · exact lay_ns _
  · rcases List.mem_cons.mp hd with rfl | hd
    · exact .int _
    · rw [List.mem_singleton.mp hd]
      exact lay_ns _
theorem lay_ents (es : List Ent) : LayD 3 (dEnts es) := LayD.tup fun d hd => by
  obtain ⟨n, _, rfl⟩ := List.mem_map.mp hd
  exact lay_ent n
theorem dp_nats {K : PySem.W.Frag} {H : Hp} : ∀ (l : List Nat), DpAll K H (l.map natV) (l.map dN)
  | [] => .nil
  | n :: r => .cons (.int _) (dp_nats r)
theorem dp_ns {K : PySem.W.Frag} {H : Hp} {t : Addr} {l : List Nat} (h : H t = some (.tup (l.map natV))) : Dp K H (.ref t) (dNs l) := .tup (SqT.of h) (dp_nats l)
theorem dp_tups {K : PySem.W.Frag} {H : Hp} : ∀ {vs : List V} {ls : List (List Nat)}, TupsAt H vs ls → DpAll K H vs (ls.map dNs)
  | [], [], _ => .nil
  | _ :: _, _ :: _, .cons ⟨t, e, h⟩ r => by
    rw [e]
    exact .cons (dp_ns h) (dp_tups r)
theorem dp_ents {K : PySem.W.Frag} {H : Hp} : ∀ {vs : List V} {ds : List Ent}, EntsAt H vs ds → DpAll K H vs (ds.map dEnt)
  | [], [], _ => .nil
  | _ :: _, _ :: _, .cons ⟨t, e, tb, tm, h1, h2, h3⟩ r => by
    rw [e]
    exact .cons (.tup (SqT.of h1) (.cons (dp_ns h2) (.cons (.int _) (.cons (dp_ns h3) .nil)))) (dp_ents r)
/-- what isinstance asks of a class of one's own -/
structure IsiC (K : PySem.W.Frag) (C : Addr) : Prop where
  cla : PySem.W.findIn K (.ref C) "__class__" = some (some (.builtin "object.__class__"))
  get : PySem.W.specialIn K (.builtin "object.__class__") "__get__" = some (some (.builtin "getset_descriptor.__get__"))
  takes : PySem.W.takesIn K (.builtin "object.__class__") = some true
  obj : PySem.W.mroIn K C (.type "object") = some true
theorem kit_self {K : PySem.W.Frag} {C : Addr} : PySem.W.kitOne K (.ref C) (.ref C) = some true := by
  unfold PySem.W.kitOne
  rw [if_pos (beq_iff_eq.mpr rfl)]
/-- t + u of tuples, kept as it is said -/
structure rCatQ (K : PySem.W.Frag) (x y : V) (H : Hp) (Q : VK) : Prop where
  h : rCatA K x y H Q
theorem op_catQ {X : Cx} : OpR X (binaryOp .Add) (rCatQ X.K) := fun pins s σ H x y v u Q I rx ry h => op_catA pins s σ H x y v u Q I rx ry h.h
/-- t + u of tuples, whatever of them is empty -/
theorem cat_q {K : PySem.W.Frag} {H0 H : Hp} {a b : Addr} {xs ys : List V} {Q : VK} (ha : H0 a = some (.tup xs)) (hb : H b = some (.tup ys)) (hl : xs.length + ys.length ≤ sizeLine) (s : Same H0 H) (q : ∀ t H', Same H0 H' → H' t = some (.tup (xs ++ ys)) → Q (.ref t) H') : rCatQ K (.ref a) (.ref b) H Q := by
  refine ⟨a, b, xs, ys, rfl, rfl, SqT.of (s _ _ ha), SqT.of hb, hl, fun e => ?_, fun _ e => ?_, fun _ _ p hp => q p _ (s.trans (same_new hp)) upd_same⟩
  · exact q b H s (by rw [hb, e]; rfl)
  · exact q a H s (by rw [s _ _ ha, e, List.append_nil])
section
variable {P : Program} {w : World} {K : PySem.W.Frag} {mg : Str → Option Value} {base : Heap} {f fS fW fN fC fL fI fU fH fA fK C Cn Cc Cl Cnl : Addr} {fd fdS fdW fdN fdC fdL fdI fdU fdH fdA fdK : FuncData}
/-! ### World.__eq__ -/
def REq (C : Addr) : Addr → Addr → Hp → Prop := fun a b H => ∃ ds, WorldAt H a C ds ∧ WorldAt H b C ds
theorem sc_worldEq : FnScope ["self", "other"] ["self", "other"] (defScope (inClass (top 18) 8)) := ⟨rfl, rfl, rfl, by decide +kernel, rfl, by decide +kernel, by decide +kernel⟩
theorem ok_worldEq (F : FnM K "__eq__" "World.__eq__" (inClass (top 18) 8) f fd) (B : Fr mg) (TC : ClsWorld K mg C) (TI : IsiC K C) (mC : mg "World" = some (.ref C)) : FnOk P w K mg base CX0 1 f fd ["self", "other"] (spEq (REq C)) ∧ Binds K fd ["self", "other"] [] := by
  refine ⟨F.ok sc_worldEq (fun vs H Q E h => ?_) (fun cdv A outer s H vs Q E hr h => ?_), F.bindsN fun _ _ _ _ _ _ us hl => match us, hl with | [_, _], _ => rfl⟩
  · obtain ⟨a, b, rfl, _⟩ := h
    rfl
  · obtain ⟨a, b, rfl, ⟨ds, ha, hb⟩, k⟩ := h
    obtain ⟨dx, ac, _, _, _, _, _, cs, _, _, _, _, h1, h2, h3, _⟩ := ha
    obtain ⟨dy, bc, _, _, _, _, _, cs', _, _, _, _, g1, g2, g3, _⟩ := hb
    refine ⟨_, PSs.nox (pss_one (ps_ret (pe_and (pe_callB call_isi (by rfl) B.isinstance PyProof.Rows.boot_isinstance (pa_cons (pv 1) (pa_cons (pe_glob (v := .ref C) (by rfl) mC rfl) pa_nil)))
      (pe_one (pe_cmpR (op_eqD hr.units) (pe_fld (pv 0) rfl) (pe_fld (pv 1) rfl) (nomark _)))))), ?_⟩
    refine ⟨_, rfl, .ref b, .ref C, .ref C, .ref C, true, rfl, .own C, .base (.ins g1 TC.cl TI.cla TI.get TI.takes TI.obj), kit_self, _, rfl, iteT' rfl ?_⟩
    refine ⟨_, rfl, a, C, dx, _, _, rfl, h1, TC.cl, TC.no _ (List.mem_of_getElem? (i := 0) rfl), rfl, _, rfl, b, C, dy, _, _, rfl, g1, TC.cl, TC.no _ (List.mem_of_getElem? (i := 0) rfl), rfl, dEnts ds, dEnts ds, .tup (SqT.of h2) (dp_ents h3), .tup (SqT.of g2) (dp_ents g3), (lay_ents ds).shaped (by decide), (lay_ents ds).shaped (by decide), ?_⟩
    rw [(lay_ents ds).refl]
    exact k H Ext.rfl'
/-! ### hue_fault -/
theorem worldEld {H : Hp} {p C : Addr} {ds : List Ent} (h : WorldAt H p C ds) {x : Nat} (hx : x < ds.length) : ∃ (dx : Addr) (fs : List (Str × V)) (ae : Addr) (es : List V) (t : Addr), H p = some (.ins C dx fs) ∧ List.lookup ("elders" : Str) fs = some (V.ref ae) ∧ H ae = some (.tup es) ∧ es[x]? = some (.ref t) ∧ H t = some (.tup (((elsOf ds).getD x []).map natV)) := h.elder hx
end
theorem ListsAt.sameAll {H H' : Hp} (s : Same H H') : ∀ {vs : List V} {ls : List (List Nat)}, ListsAt H vs ls → ListsAt H' vs ls
  | [], [], _ => .nil
  | _ :: _, _ :: _, .cons ⟨t, e, h⟩ r => .cons ⟨t, e, s _ _ h⟩ (ListsAt.sameAll s r)
def rLenS (K : PySem.W.Frag) : List V → Hp → VK → Prop := fun xs H Q => ∃ p ys, xs = [.ref p] ∧ (SqL K H p ys ∨ SqT K H p ys) ∧ Q (.int ys.length) H
theorem call_lenS {X : Cx} : CallR X (.builtin "len") (rLenS X.K) := call_len_seq
theorem Ty0.isTup {K : PySem.W.Frag} {H : Hp} {x : V} {t : String} (h : Ty0 H x t) : PySem.W.kitOne K (.type t) (.type "tuple") = some (t == "tuple") := by
  cases h <;> exact kit_ty (by decide +kernel)
theorem Ty0.isStr {K : PySem.W.Frag} {H : Hp} {x : V} {t : String} (h : Ty0 H x t) : PySem.W.kitOne K (.type t) (.type "str") = some (t == "str") := by
  cases h <;> exact kit_ty (by decide +kernel)
/-- a plain thing: None, a bool, a number, a text -/
def Flat : V → Prop
  | .non => True
  | .bl _ => True
  | .int _ => True
  | .str _ => True
  | _ => False
/-- the thing is just what is due: plain, or tuples of such, n deep -/
def TupR (H : Hp) (a : Addr) (xs : List V) : Prop := Rd H a (.tup xs)
theorem TupR.of {H : Hp} {a : Addr} {xs : List V} (h : H a = some (.tup xs)) : TupR H a xs := .inl h
theorem TupR.same {H H' : Hp} {a : Addr} {xs : List V} (h : TupR H a xs) (s : Same H H') : TupR H' a xs := by
  rcases h with h | ⟨o, h⟩
  · exact .inl (s _ _ h)
  · exact .inr ⟨o, s _ _ h⟩
theorem TupR.sq {K : PySem.W.Frag} {H : Hp} {a : Addr} {xs : List V} (h : TupR H a xs) : SqT K H a xs := .inl h
theorem TupR.ty {K : PySem.W.Frag} {H : Hp} {a : Addr} {xs : List V} (h : TupR H a xs) : TyX K H (.ref a) (.type "tuple") := by
  rcases h with h | ⟨o, h⟩
  · exact .base (.tup h)
  · exact .fTuple h
theorem kit_tup {K : PySem.W.Frag} : PySem.W.kitOne K (.type "tuple") (.type "tuple") = some true := kit_ty (by decide +kernel)
def Exact (H : Hp) : Nat → V → V → Prop
  | 0, x, d => x = d ∧ Flat d
  | n + 1, x, d => (x = d ∧ Flat d) ∨ ∃ a b xs ys, x = .ref a ∧ d = .ref b ∧ TupR H a xs ∧ TupR H b ys ∧ xs.length = ys.length ∧ ys.length ≤ 1000 ∧ ∀ (i : Nat) (u v : V), xs[i]? = some u → ys[i]? = some v → Exact H n u v
theorem Exact.same {H H' : Hp} (s : Same H H') : ∀ {n : Nat} {x d : V}, Exact H n x d → Exact H' n x d
  | 0, _, _, h => h
  | n + 1, _, _, .inl h => .inl h
  | n + 1, _, _, .inr ⟨a, b, xs, ys, e1, e2, h1, h2, h3, h5, h4⟩ => .inr ⟨a, b, xs, ys, e1, e2, h1.same s, h2.same s, h3, h5, fun i u v hu hv => (h4 i u v hu hv).same s⟩
def spExact (n : Nat) : Sp := fun vs H Q _ => ∃ x d, vs = [x, d] ∧ Exact H n x d ∧ ∀ H', Same H H' → Q (.bl true) H'
section
variable {P : Program} {w : World} {K : PySem.W.Frag} {mg : Str → Option Value} {base : Heap} {f fI : Addr} {fd fdI : FuncData}
def spInt : Sp := fun vs H Q _ => ∃ i, vs = [.int i] ∧ Q (.bl true) H
end
theorem flat_hV (o : Option Nat) : Flat (hV o) := by cases o <;> exact True.intro
theorem Exact.flat {H : Hp} {x : V} (n : Nat) (h : Flat x) : Exact H n x x := by
  cases n with
  | zero => exact ⟨rfl, h⟩
  | succ n => exact .inl ⟨rfl, h⟩
theorem Exact.tup {H : Hp} {a b : Addr} {xs : List V} (n : Nat) (ha : H a = some (.tup xs)) (hb : H b = some (.tup xs)) (hf : ∀ x ∈ xs, Flat x) (hz : xs.length ≤ 1000) : Exact H (n + 1) (.ref a) (.ref b) :=
  .inr ⟨a, b, xs, xs, rfl, rfl, .inl ha, .inl hb, rfl, hz, fun i u v hu hv => by
    rw [hu] at hv
    rw [← Option.some.inj hv]
    exact Exact.flat n (hf u (List.mem_of_getElem? hu))⟩
theorem passOut {X : Cx} {E : XK} : Passes (L2.CX X.prog X.w) X (fun _ _ _ => False) := fun _ _ _ _ _ _ _ h => by
  obtain ⟨_, _, _, _, _, _, _, _, _, _, _, _, h⟩ := h
  exact h.elim
theorem kin_props {ds : List Ent} (ok : DsOk ds) {x : Nat} (h : x < ds.length) : ((kins (elsOf ds)).getD x []).Pairwise (· < ·) ∧ (∀ k ∈ (kins (elsOf ds)).getD x [], k ≤ x) := by
  have z := kin_up (ds.map (·.1)) x (by rw [List.length_map]; exact h)
  rw [← kins_getD (by rw [elders_len, List.length_map]; exact h)] at z
  exact z
theorem kin_len {ds : List Ent} (ok : DsOk ds) {x : Nat} (h : x < ds.length) (h12 : ds.length ≤ 12) : ((kins (elsOf ds)).getD x []).length ≤ 12 := by
  obtain ⟨u, l⟩ := kin_props ok h
  have h1 := nodup_sub_len' (ns := List.range 12) (up_nodup u) fun k hk => List.mem_range.mpr (by have := l k hk; omega)
  rw [List.length_range] at h1
  exact h1
theorem sortN_nat {l : List Nat} (up : l.Pairwise (· < ·)) (h6 : ∀ m ∈ l, m < 6) : (sortN l).map natV = l.map natV := by
  have e : ((sortN l).map fun (n : Nat) => (n : Int)).map V.int = (sortN l).map natV := by
    rw [List.map_map]
    rfl
  rw [← e]
  refine asc_one ?_ up fun k => ?_
  · have u : (sortN l).Pairwise (· < ·) := List.Pairwise.filter _ List.pairwise_lt_range
    exact List.pairwise_map.mpr (u.imp fun z => by omega)
  · rw [List.mem_map]
    constructor
    · rintro ⟨n, hn, rfl⟩
      unfold sortN at hn
      rw [List.mem_filter] at hn
      exact ⟨n, by simpa using hn.2, rfl⟩
    · rintro ⟨n, hn, rfl⟩
      refine ⟨n, ?_, rfl⟩
      unfold sortN
      rw [List.mem_filter, List.mem_range]
      exact ⟨h6 n hn, by simpa using hn⟩
section
variable {P : Program} {w : World} {K : PySem.W.Frag} {mg : Str → Option Value} {base : Heap} {f fS fW fN fC fL fI fU fH fA fWW fWI C Cn Cc Cl Cnl Ck Cb : Addr} {fd fdS fdW fdN fdC fdL fdI fdU fdH fdA fdWW fdWI : FuncData}
def spWithC (C : Addr) : Sp := fun vs H Q _ => ∃ (p ab am : Addr) (ds : List Ent) (d : Ent), vs = [.ref p, .ref ab, natV d.2.1, .ref am] ∧ WorldAt H p C ds ∧ DsOk ds ∧ ds.length + 1 ≤ 12 ∧ SeqAt H ab (d.1.map natV) ∧ SeqAt H am (d.2.2.map natV) ∧ EOk ds.length d ∧
  ∀ p' H', Same H H' → H p' = none → WorldAt H' p' C (ds ++ [d]) → Q (.ref p') H'
end
theorem els_app {ds : List Ent} {d : Ent} {c : Nat} (h : c < ds.length) : (elsOf (ds ++ [d])).getD c [] = (elsOf ds).getD c [] := by
  unfold elsOf
  have e : (List.map (·.1) (ds ++ [d])).take ds.length = ds.map (·.1) := by
    rw [List.map_append, List.take_append_of_le_length (by rw [List.length_map]; exact Nat.le_refl _), List.take_of_length_le (by rw [List.length_map]; exact Nat.le_refl _)]
  rw [← elders_getD_take (c := ds.length) h, e]
theorem els_fst {ds : List Ent} {d e : Ent} (h : d.1 = e.1) : elsOf (ds ++ [d]) = elsOf (ds ++ [e]) := by
  unfold elsOf
  rw [List.map_append, List.map_append, List.map_cons, List.map_cons, h]
theorem kins_app {ds : List Ent} {d : Ent} {c : Nat} (h : c < ds.length) : (kins (elsOf (ds ++ [d]))).getD c [] = (kins (elsOf ds)).getD c [] := by
  rw [kins_els (by rw [List.length_append]; omega), kins_els h, els_app h]
theorem kinsL {ds : List Ent} : (kins (elsOf ds)).length = ds.length := by rw [kins_len, elsOf_len]
theorem DsOk.kins {ds : List Ent} (ok : DsOk ds) : KinsOk (kins (elsOf ds)) := kins_ok ok.valid
def PairsAt (H : Hp) : List V → List (Nat × Nat) → Prop := Paired fun v p => ∃ t, v = .ref t ∧ H t = some (.tup [natV p.1, natV p.2])
theorem PairsAt.keep {H H' : Hp} {R : Addr} {us0 : List V} (hR : H R = some (.lst us0)) (s : Oth R H H') : ∀ {us : List V} {ps : List (Nat × Nat)}, PairsAt H us ps → PairsAt H' us ps
  | [], [], _ => .nil
  | _ :: _, _ :: _, .cons ⟨t, e, h⟩ r => .cons ⟨t, e, s _ _ (fun z => by rw [z, hR] at h; cases h) h⟩ (PairsAt.keep hR s r)
theorem PairsAt.same {H H' : Hp} (s : Same H H') : ∀ {us : List V} {ps : List (Nat × Nat)}, PairsAt H us ps → PairsAt H' us ps
  | [], [], _ => .nil
  | _ :: _, _ :: _, .cons ⟨t, e, h⟩ r => .cons ⟨t, e, s _ _ h⟩ (PairsAt.same s r)
theorem PairsAt.app {H : Hp} : ∀ {vs us : List V} {ls ms : List (Nat × Nat)}, PairsAt H vs ls → PairsAt H us ms → PairsAt H (vs ++ us) (ls ++ ms)
  | [], _, [], _, _, h => h
  | _ :: _, _, _ :: _, _, .cons h r, s => .cons h (PairsAt.app r s)
theorem PairsAt.len {H : Hp} {vs : List V} {ls : List (Nat × Nat)} (h : PairsAt H vs ls) : vs.length = ls.length := Paired.length h
def dPair (p : Nat × Nat) : PyData := .tuple [.int (p.1 : Int), .int (p.2 : Int)]
theorem dp_pairs {K : PySem.W.Frag} {H : Hp} : ∀ {us : List V} {ps : List (Nat × Nat)}, PairsAt H us ps → DpAll K H us (ps.map dPair)
  | [], [], _ => .nil
  | _ :: _, _ :: _, .cons ⟨t, e, h⟩ r => by
    rw [e]
    exact .cons (.tup (SqT.of h) (.cons (.int _) (.cons (.int _) .nil))) (dp_pairs r)
theorem lay_pair (p : Nat × Nat) : LayD 1 (dPair p) := LayD.tup fun d hd => by
  rcases List.mem_cons.mp hd with rfl | hd
  · exact .int _
  · rw [List.mem_singleton.mp hd]
    exact .int _
theorem LayD.lst {n : Nat} {ds : List PyData} (h : ∀ d ∈ ds, LayD n d) : LayD (n + 1) (.list ds) := by
  obtain ⟨h1, h2⟩ := lay_all h
  refine ⟨by simp [PyData.canLay0, h1], ?_⟩
  simp only [PyData.depth]
  omega
theorem lay_pairs (ps : List (Nat × Nat)) : LayD 2 (.list (ps.map dPair)) := LayD.lst fun d hd => by
  obtain ⟨p, _, rfl⟩ := List.mem_map.mp hd
  exact lay_pair p
theorem eqv_pair (p q : Nat × Nat) : PyData.eqv (dPair p) (dPair q) = decide (p = q) := by
  obtain ⟨a, b⟩ := p
  obtain ⟨c, d⟩ := q
  have e : PyData.eqv (dPair (a, b)) (dPair (c, d)) = (((a : Int) == (c : Int)) && (((b : Int) == (d : Int)) && true)) := by simp only [dPair, PyData.eqv, PyData.eqvAll]
  rw [e, Bool.eq_iff_iff, Bool.and_eq_true, Bool.and_true, beq_iff_eq, beq_iff_eq, decide_eq_true_eq]
  constructor
  · rintro ⟨h1, h2⟩
    rw [show a = c by omega, show b = d by omega]
  · intro h
    cases h
    exact ⟨rfl, rfl⟩
theorem any_pair (ps : List (Nat × Nat)) (q : Nat × Nat) : ((ps.map dPair).any fun z => PyData.eqv z (dPair q)) = decide (q ∈ ps) := by
  rw [Bool.eq_iff_iff, List.any_eq_true, decide_eq_true_eq]
  constructor
  · rintro ⟨z, hz, e⟩
    obtain ⟨p, hp, rfl⟩ := List.mem_map.mp hz
    rw [eqv_pair, decide_eq_true_eq] at e
    rw [← e]
    exact hp
  · intro h
    exact ⟨_, List.mem_map_of_mem h, by rw [eqv_pair, decide_eq_true_eq]⟩
def SortP (ps : List (Nat × Nat)) : Prop := ps.Pairwise fun p q => p.1 < q.1 ∨ (p.1 = q.1 ∧ p.2 < q.2)
theorem SortP.snoc {ps : List (Nat × Nat)} {a b : Nat} (h : SortP ps) (z : ∀ p ∈ ps, p.1 < a ∨ (p.1 = a ∧ p.2 < b)) : SortP (ps ++ [(a, b)]) := by
  unfold SortP
  rw [List.pairwise_append]
  refine ⟨h, List.pairwise_singleton _ _, fun p hp q hq => ?_⟩
  rw [List.mem_singleton.mp hq]
  exact z p hp
theorem sortP_one : ∀ {ps qs : List (Nat × Nat)}, SortP ps → SortP qs → (∀ p, p ∈ ps ↔ p ∈ qs) → ps = qs
  | [], [], _, _, _ => rfl
  | [], q :: _, _, _, h => by have := (h q).mpr List.mem_cons_self; cases this
  | p :: _, [], _, _, h => by have := (h p).mp List.mem_cons_self; cases this
  | p :: ps, q :: qs, hp, hq, h => by
    obtain ⟨p1, p2⟩ := List.pairwise_cons.mp hp
    obtain ⟨q1, q2⟩ := List.pairwise_cons.mp hq
    have e : p = q := by
      have a := (h p).mp List.mem_cons_self
      have b := (h q).mpr List.mem_cons_self
      rcases List.mem_cons.mp a with a | a
      · exact a
      · rcases List.mem_cons.mp b with b | b
        · exact b.symm
        · have x := q1 p a
          have y := p1 q b
          omega
    subst e
    have np : p ∉ ps := fun z => by have := p1 p z; omega
    have nq : p ∉ qs := fun z => by have := q1 p z; omega
    rw [sortP_one p2 q2 fun r => ⟨fun hr => ?_, fun hr => ?_⟩]
    · rcases List.mem_cons.mp ((h r).mp (List.mem_cons_of_mem _ hr)) with e | e
      · rw [e] at hr
        exact (np hr).elim
      · exact e
    · rcases List.mem_cons.mp ((h r).mpr (List.mem_cons_of_mem _ hr)) with e | e
      · rw [e] at hr
        exact (nq hr).elim
      · exact e
theorem room65 {k : Nat} {A : Around} (r : Room k A) : A.units + 65 < cLine := by
  have := r.un
  omega
theorem nodup_sub_len'' {α : Type} [DecidableEq α] {ks ns : List α} (hn : ks.Nodup) (hs : ∀ k ∈ ks, k ∈ ns) : ks.length ≤ ns.length := Kw.nodup_sub_len hn hs
def lx : List Nat → List Nat → Bool
  | [], [] => false
  | [], _ :: _ => true
  | _ :: _, [] => false
  | a :: as, b :: bs => decide (a < b) || (decide (a = b) && lx as bs)
theorem lx_cons {a b : Nat} {as bs : List Nat} : lx (a :: as) (b :: bs) = true ↔ a < b ∨ (a = b ∧ lx as bs = true) := by
  simp [lx]
theorem lx_refl : ∀ l, lx l l = false
  | [] => rfl
  | a :: as => by
    simp [lx, lx_refl as]
theorem lx_anti : ∀ {l m : List Nat}, lx l m = false → lx m l = false → l = m
  | [], [], _, _ => rfl
  | [], _ :: _, h, _ => by simp [lx] at h
  | _ :: _, [], _, h => by simp [lx] at h
  | a :: as, b :: bs, h1, h2 => by
    have e1 : (a < b ∨ (a = b ∧ lx as bs = true)) → False := fun z => by
      have := lx_cons.mpr z
      rw [h1] at this
      cases this
    have e2 : (b < a ∨ (b = a ∧ lx bs as = true)) → False := fun z => by
      have := lx_cons.mpr z
      rw [h2] at this
      cases this
    have : a = b := by
      apply Classical.byContradiction
      intro q
      rcases Nat.lt_or_gt_of_ne q with z | z
      · exact e1 (.inl z)
      · exact e2 (.inl z)
    subst this
    have t1 : lx as bs = false := by
      cases c : lx as bs with
      | false => rfl
      | true => exact (e1 (.inr ⟨rfl, c⟩)).elim
    have t2 : lx bs as = false := by
      cases c : lx bs as with
      | false => rfl
      | true => exact (e2 (.inr ⟨rfl, c⟩)).elim
    rw [lx_anti t1 t2]
theorem lx_trans : ∀ {l m k : List Nat}, lx l m = true → lx m k = true → lx l k = true
  | [], [], _, h, _ => by simp [lx] at h
  | [], _ :: _, [], _, h => by simp [lx] at h
  | [], _ :: _, _ :: _, _, _ => rfl
  | _ :: _, [], _, h, _ => by simp [lx] at h
  | _ :: _, _ :: _, [], _, h => by simp [lx] at h
  | a :: as, b :: bs, c :: cs, h1, h2 => by
    rw [lx_cons] at *
    rcases h1 with h1 | ⟨rfl, h1⟩
    · rcases h2 with h2 | ⟨rfl, h2⟩
      · exact .inl (by omega)
      · exact .inl h1
    · rcases h2 with h2 | ⟨rfl, h2⟩
      · exact .inl h2
      · exact .inr ⟨rfl, lx_trans h1 h2⟩
theorem lx_pre : ∀ (p : List Nat) {a b : Nat} (as bs : List Nat), a < b → lx (p ++ a :: as) (p ++ b :: bs) = true
  | [], _, _, _, _, h => lx_cons.mpr (.inl h)
  | _ :: p, _, _, as, bs, h => lx_cons.mpr (.inr ⟨rfl, lx_pre p as bs h⟩)
theorem lx_pre_same : ∀ (p l m : List Nat), lx (p ++ l) (p ++ m) = lx l m
  | [], _, _ => rfl
  | a :: p, l, m => by
    show lx (a :: (p ++ l)) (a :: (p ++ m)) = _
    rw [← lx_pre_same p l m]
    simp [lx]
theorem lx_app : ∀ {l m : List Nat} (p q : List Nat), l.length = m.length → lx l m = true → lx (l ++ p) (m ++ q) = true
  | [], [], _, _, _, h => by simp [lx] at h
  | [], _ :: _, _, _, e, _ => by simp at e
  | _ :: _, [], _, _, e, _ => by simp at e
  | a :: as, b :: bs, p, q, e, h => by
    rw [lx_cons] at h
    show lx (a :: (as ++ p)) (b :: (bs ++ q)) = true
    rw [lx_cons]
    rcases h with h | ⟨rfl, h⟩
    · exact .inl h
    · exact .inr ⟨rfl, lx_app p q (by simpa using e) h⟩
theorem getD_snoc (r : List Nat) (h i : Nat) : (r ++ [h]).getD i 0 = if i < r.length then r.getD i 0 else if i = r.length then h else 0 := by
  by_cases c : i < r.length
  · rw [if_pos c, List.getD_eq_getElem?_getD, List.getElem?_append_left c, ← List.getD_eq_getElem?_getD]
  · rw [if_neg c, List.getD_eq_getElem?_getD, List.getElem?_append_right (by omega)]
    by_cases q : i = r.length
    · rw [if_pos q, q, Nat.sub_self]
      rfl
    · rw [if_neg q, List.getElem?_eq_none (by rw [List.length_singleton]; omega)]
      rfl
def firstS {α : Type} (k : Nat) (f : Nat → Option α) : Option α := (List.range k).findSome? f
theorem firstS_succ {α : Type} {k : Nat} {f : Nat → Option α} : firstS (k + 1) f = (firstS k f).or (f k) := by
  unfold firstS
  rw [List.range_succ, List.findSome?_append]
  congr 1
  simp [List.findSome?]
  cases f k <;> rfl
theorem firstS_none {α : Type} {f : Nat → Option α} : ∀ {k : Nat}, firstS k f = none ↔ ∀ h, h < k → f h = none
  | 0 => ⟨fun _ _ h => absurd h (Nat.not_lt_zero _), fun _ => rfl⟩
  | k + 1 => by
    rw [firstS_succ, Option.or_eq_none_iff, firstS_none (k := k)]
    constructor
    · rintro ⟨h1, h2⟩ h hh
      by_cases q : h < k
      · exact h1 h q
      · rw [show h = k by omega]
        exact h2
    · intro h
      exact ⟨fun j hj => h j (by omega), h k (by omega)⟩
theorem firstS_some {α : Type} {f : Nat → Option α} {r : α} : ∀ {k : Nat}, firstS k f = some r ↔ ∃ h, h < k ∧ f h = some r ∧ ∀ j, j < h → f j = none
  | 0 => ⟨(fun h => by cases h), fun ⟨_, h, _⟩ => absurd h (Nat.not_lt_zero _)⟩
  | k + 1 => by
    rw [firstS_succ]
    constructor
    · intro h
      cases e : firstS k f with
      | some z =>
        rw [e] at h
        obtain rfl := Option.some.inj h
        obtain ⟨j, hj, h2, h3⟩ := firstS_some.mp e
        exact ⟨j, by omega, h2, h3⟩
      | none =>
        rw [e] at h
        exact ⟨k, by omega, h, fun j hj => firstS_none.mp e j hj⟩
    · rintro ⟨h, hh, h2, h3⟩
      by_cases q : h < k
      · rw [firstS_some.mpr ⟨h, q, h2, h3⟩]
        rfl
      · have : h = k := by omega
        subst this
        rw [firstS_none.mpr h3]
        exact h2
/-! ### min of a list of lists or tuples of numbers -/
def dR (tup : Bool) (r : List Nat) : PyData := if tup = true then .tuple (r.map fun (n : Nat) => .int (n : Int)) else .list (r.map fun (n : Nat) => .int (n : Int))
def toksN (r : List Nat) : List (Int ⊕ List Nat) := PySem.W.keyToksAll (r.map fun (n : Nat) => .int (n : Int))
theorem keyToks_dR (tup : Bool) (r : List Nat) : PySem.W.keyToks (dR tup r) = toksN r := by
  unfold dR toksN
  cases tup <;> simp [PySem.W.keyToks]
theorem alike_ints : ∀ (r s : List Nat), PySem.W.alikeAll (r.map fun (n : Nat) => PyData.int (n : Int)) (s.map fun (n : Nat) => PyData.int (n : Int)) = true
  | [], [] => by simp [PySem.W.alikeAll]
  | [], _ :: _ => by simp [PySem.W.alikeAll]
  | _ :: _, [] => by simp [PySem.W.alikeAll]
  | a :: r, b :: s => by
    rw [List.map_cons, List.map_cons, PySem.W.alikeAll, alike_ints r s]
    simp [PySem.W.alike]
theorem alike_dR (tup : Bool) (r s : List Nat) : PySem.W.alike (dR tup r) (dR tup s) = true := by
  unfold dR
  cases tup
  · show PySem.W.alike (.list _) (.list _) = true
    rw [PySem.W.alike]
    exact alike_ints r s
  · show PySem.W.alike (.tuple _) (.tuple _) = true
    rw [PySem.W.alike]
    exact alike_ints r s
theorem dR_inj {tup : Bool} : ∀ {r s : List Nat}, dR tup r = dR tup s → r = s := by
  intro r s h
  have e : (r.map fun (n : Nat) => PyData.int (n : Int)) = s.map fun (n : Nat) => PyData.int (n : Int) := by
    unfold dR at h
    cases tup
    · exact PyData.list.inj h
    · exact PyData.tuple.inj h
  refine List.map_inj_right (f := fun (n : Nat) => PyData.int (n : Int)) (fun a b h => ?_) |>.mp e
  have := PyData.int.inj h
  omega
theorem lt_toks : ∀ (r s : List Nat), PyProof.Rows.lexLt itemOrd (toksN r) (toksN s) = lx r s
  | [], [] => by
    unfold toksN
    simp only [List.map_nil]
    rw [PySem.W.keyToksAll]
    decide
  | [], b :: s => by
    unfold toksN
    rw [List.map_nil, List.map_cons, PySem.W.toks_all_cons, PySem.W.keyToksAll, PySem.W.lex_atom (by simp)]
    show _ = true
    decide
  | a :: r, [] => by
    unfold toksN
    rw [List.map_nil, List.map_cons, PySem.W.toks_all_cons, PySem.W.keyToksAll, PySem.W.lex_atom (by simp)]
    show _ = false
    decide
  | a :: r, b :: s => by
    have ha : PySem.W.alike (.int (a : Int)) (.int (b : Int)) = true := by simp [PySem.W.alike]
    unfold toksN
    rw [List.map_cons, List.map_cons]
    cases e : PyData.eqv (.int (a : Int)) (.int (b : Int)) with
    | true =>
      rw [PySem.W.dataLt_all_yes ha e]
      have z : a = b := by
        have : ((a : Int) == (b : Int)) = true := by simpa only [PyData.eqv] using e
        have := beq_iff_eq.mp this
        omega
      have ih := lt_toks r s
      unfold toksN at ih
      rw [ih, z]
      simp [lx]
    | false =>
      rw [PySem.W.dataLt_all_no ha e, PySem.W.dataLt_int]
      have z : a ≠ b := by
        intro z
        have : ((a : Int) == (b : Int)) = false := by simpa only [PyData.eqv] using e
        rw [z] at this
        simp at this
      rw [Bool.eq_iff_iff, lx_cons, decide_eq_true_eq]
      constructor
      · intro h
        exact .inl (by omega)
      · rintro (h | h)
        · omega
        · exact (z h.1).elim
theorem lt_dR (tup : Bool) (r s : List Nat) : PySem.W.dataLt (dR tup r) (dR tup s) = lx r s := by
  unfold PySem.W.dataLt
  rw [keyToks_dR, keyToks_dR, lt_toks]
def minL (r : List Nat) (rs : List (List Nat)) : List Nat := rs.foldl (fun a y => if lx y a = true then y else a) r
theorem minD_dR (tup : Bool) : ∀ (rs : List (List Nat)) (r : List Nat), PySem.W.minD (dR tup r) (rs.map (dR tup)) = dR tup (minL r rs)
  | [], r => rfl
  | s :: rs, r => by
    show PySem.W.minD (if PySem.W.dataLt (dR tup s) (dR tup r) = true then dR tup s else dR tup r) (rs.map (dR tup)) = dR tup (minL (if lx s r = true then s else r) rs)
    rw [lt_dR]
    cases c : lx s r with
    | true => exact minD_dR tup rs s
    | false => exact minD_dR tup rs r
theorem minL_spec : ∀ (rs : List (List Nat)) (r : List Nat), minL r rs ∈ r :: rs ∧ ∀ y ∈ r :: rs, lx y (minL r rs) = false
  | [], r => ⟨List.mem_cons_self, fun y hy => by rw [List.mem_singleton.mp hy]; exact lx_refl _⟩
  | s :: rs, r => by
    show minL (if lx s r = true then s else r) rs ∈ _ ∧ ∀ y ∈ _, lx y (minL (if lx s r = true then s else r) rs) = false
    cases c : lx s r with
    | true =>
      rw [if_pos rfl]
      obtain ⟨h1, h2⟩ := minL_spec rs s
      refine ⟨List.mem_cons_of_mem _ h1, fun y hy => ?_⟩
      rcases List.mem_cons.mp hy with rfl | hy
      · cases d : lx y (minL s rs) with
        | false => rfl
        | true =>
          have := lx_trans c d
          rw [h2 s List.mem_cons_self] at this
          cases this
      · exact h2 y hy
    | false =>
      rw [if_neg (by decide)]
      obtain ⟨h1, h2⟩ := minL_spec rs r
      refine ⟨?_, fun y hy => ?_⟩
      · rcases List.mem_cons.mp h1 with h1 | h1
        · rw [h1]
          exact List.mem_cons_self
        · exact List.mem_cons_of_mem _ (List.mem_cons_of_mem _ h1)
      · rcases List.mem_cons.mp hy with rfl | hy
        · exact h2 y List.mem_cons_self
        · rcases List.mem_cons.mp hy with rfl | hy
          · cases d : lx y (minL r rs) with
            | false => rfl
            | true =>
              -- y before the least, r not behind y
              have q : lx r (minL r rs) = false := h2 r List.mem_cons_self
              by_cases e : r = y
              · rw [← e, q] at d
                cases d
              · cases x : lx r y with
                | true =>
                  have := lx_trans x d
                  rw [q] at this
                  cases this
                | false => exact (e (lx_anti x c)).elim
          · exact h2 y (List.mem_cons_of_mem _ hy)
theorem depth_ints : ∀ r : List Nat, PyData.depthAll (r.map fun (n : Nat) => PyData.int (n : Int)) = 0
  | [] => by simp [PyData.depthAll]
  | a :: r => by
    rw [List.map_cons, PyData.depthAll, depth_ints r]
    simp [PyData.depth]
theorem depth_dR (tup : Bool) (r : List Nat) : (dR tup r).depth ≤ 1 := by
  unfold dR
  cases tup
  · show (PyData.list _).depth ≤ 1
    rw [PyData.depth, depth_ints]
    exact Nat.le_refl _
  · show (PyData.tuple _).depth ≤ 1
    rw [PyData.depth, depth_ints]
    exact Nat.le_refl _
theorem depthAll_dR (tup : Bool) : ∀ rs : List (List Nat), PyData.depthAll (rs.map (dR tup)) ≤ 1
  | [] => by simp [PyData.depthAll]
  | r :: rs => by
    rw [List.map_cons, PyData.depthAll]
    have := depth_dR tup r
    have := depthAll_dR tup rs
    omega
theorem vals_at {us : List V} {its : List Value} (h : Vals us its) (i : Nat) (v : Value) (hv : its[i]? = some v) : ∃ u, us[i]? = some u ∧ RelV u v := by
  have h : Paired RelV us its := h
  induction h generalizing i with
  | nil => cases hv
  | cons r _ ih =>
    cases i with
    | zero =>
      obtain rfl := Option.some.inj hv
      exact ⟨_, rfl, r⟩
    | succ i => exact ih (by assumption) i hv
/-- min(xs), xs a list of lists (or of tuples) of whole numbers: one that none stands before -/
def rMinN (K : PySem.W.Frag) (tup : Bool) : List V → Hp → VK → Prop := fun vs H Q => ∃ (a : Addr) (us : List V) (rows : List (List Nat)), vs = [.ref a] ∧ SqL K H a us ∧ DpAll K H us (rows.map (dR tup)) ∧ rows ≠ [] ∧
  ∀ (i : Nat) (u : V) (r : List Nat), us[i]? = some u → rows[i]? = some r → (∀ s ∈ rows, lx s r = false) → Q u H
theorem cr_minN {X : Cx} (tup : Bool) (hc : X.calm = true) (hu : X.A.units + 65 < cLine) : CallR X (.builtin "min") (rMinN X.K tup) := by
  intro pins s σ H vs us Q I r h
  obtain ⟨a, ws, rows, rfl, hs, hd, hne, q⟩ := h
  obtain ⟨its, rv, hl, _⟩ := I.list hs
  rw [Vals.ref1 r]
  obtain ⟨as, hr⟩ := Dp.readsAll I _ _ _ hd rv
  match rows, hne with
  | r0 :: rows, _ =>
    have ha : PySem.W.AlikeAll ((r0 :: rows).map (dR tup)) := by
      refine ⟨fun x hx y hy => ?_, fun x hx => ?_⟩
      · obtain ⟨p, _, rfl⟩ := List.mem_map.mp hx
        obtain ⟨p', _, rfl⟩ := List.mem_map.mp hy
        exact alike_dR tup _ _
      · obtain ⟨p, _, rfl⟩ := List.mem_map.mp hx
        unfold dR
        cases tup <;> simp
    have hdep := depthAll_dR tup (r0 :: rows)
    refine PySem.W.min_list_data (x := dR tup r0) (xs := rows.map (dR tup)) (I.ok.hd hc) hl.isList hr ha (by have : PyData.depthAll (dR tup r0 :: rows.map (dR tup)) ≤ 1 := hdep; omega) fun i v h' tk bs hv rd hk => ?_
    have hv' : its[i]? = some v := by
      rw [← hv]
      simp
    obtain ⟨u, hu1, hu2⟩ := vals_at rv i v hv'
    have hr' : ReadsAll s.heap its ((r0 :: rows).map (dR tup)) as := hr
    obtain ⟨bs2, rd2, hi, _, _⟩ := PySem.W.readsAll_at hr' i v hv'
    rw [List.length_map] at hi
    obtain ⟨ri, hri⟩ : ∃ ri, (r0 :: rows)[i]? = some ri := ⟨_, List.getElem?_eq_getElem hi⟩
    have e1 : ((r0 :: rows).map (dR tup)).getD i .none = dR tup ri := by
      rw [List.getD_eq_getElem?_getD, List.getElem?_map, hri]
      rfl
    rw [e1] at rd2
    rw [minD_dR] at rd
    have e2 := PySem.W.alike_unique _ _ _ _ _ (alike_dR tup ri (minL r0 rows)) (PySem.W.reads_keeps hk rd2) rd
    have e3 := dR_inj e2
    exact ⟨u, H, I.kept hk, hu2, q i u ri hu1 hri fun y hy => by rw [e3]; exact (minL_spec rows r0).2 y hy⟩
/-- the inner walk of a comprehension over two ranges -/
theorem lc2_in {m : Nat} {lo : Int} {g1 : TG} {tt1 : TT} {te : TE} {vs1 : List Nat} {σ2 : L2.St} {H4 : Hp} {D : Addr} {Nx : Hp → Prop} (Pw : Nat → Hp → Prop) (h0 : Pw 0 H4)
    (hs : ∀ j H, j < m → Pw j H → g1 (.int (lo + (j : Int))) (wipe σ2 vs1) H fun σ3 H5 => wipe σ3 vs1 = wipe σ2 vs1 ∧ tt1 σ3 H5 fun b H6 =>
        if b = true then te σ3 H6 fun y H7 => ∃ acc, H7 D = some (.lst acc) ∧ acc.length < sizeLine ∧ Pw (j + 1) (upd H7 D (.lst (acc ++ [y]))) else Pw (j + 1) H6)
    (hd : ∀ H, Pw m H → Nx H) :
    ∃ W1 : Nat → Nat → Hp → Prop, (∃ m, W1 0 m H4) ∧ ∀ j k H, W1 j k H →
        ((Itr lo m).stop j H ∧ Nx H) ∨ ((Itr lo m).go j H ∧ ∃ Nx1 : Hp → Prop, (∀ H', Nx1 H' → ∃ k', k' < k ∧ W1 (j + 1) k' H') ∧ ∀ x H', (Itr lo m).yld j H x H' → g1 x (wipe σ2 vs1) H' fun σ3 H5 => wipe σ3 vs1 = wipe σ2 vs1 ∧ tt1 σ3 H5 fun b H6 =>
          if b = true then te σ3 H6 fun y H7 => ∃ acc, H7 D = some (.lst acc) ∧ acc.length < sizeLine ∧ Nx1 (upd H7 D (.lst (acc ++ [y]))) else Nx1 H6) := by
  refine ⟨fun i k H => k = m - i ∧ i ≤ m ∧ Pw i H, ⟨m, by simp, Nat.zero_le _, h0⟩, ?_⟩
  rintro i k H ⟨rfl, hi, p⟩
  by_cases hlt : i < m
  · refine .inr ⟨hlt, Pw (i + 1), fun H' p' => ⟨m - (i + 1), by omega, rfl, hlt, p'⟩, fun x H' y => ?_⟩
    obtain ⟨e, y⟩ := y
    subst e y
    exact hs i _ hlt p
  · have e : i = m := by omega
    subst e
    exact .inl ⟨Nat.le_refl _, hd _ p⟩
/-- the outer walk, over a range -/
theorem lc2_out {n : Nat} {lo : Int} {wi1 : TI} {g g1 : TG} {tt tt1 : TT} {te : TE} {vs vs1 : List Nat} {σ : L2.St} {H1 : Hp} {D : Addr} {Qd : Hp → Prop} (Pv : Nat → Hp → Prop) (h0 : Pv 0 (upd H1 D (.lst [])))
    (hs : ∀ i H, i < n → Pv i H → ∀ Nx : Hp → Prop, (∀ H', Pv (i + 1) H' → Nx H') → g (.int (lo + (i : Int))) (wipe σ vs) H fun σ2 H2 => wipe σ2 vs = wipe σ vs ∧ tt σ2 H2 fun b H3 => if b = true then wi1 σ2 H3 fun J1 H4 => ∃ W1 : Nat → Nat → Hp → Prop, (∃ m, W1 0 m H4) ∧ ∀ j k H, W1 j k H →
        (J1.stop j H ∧ Nx H) ∨ (J1.go j H ∧ ∃ Nx1 : Hp → Prop, (∀ H', Nx1 H' → ∃ k', k' < k ∧ W1 (j + 1) k' H') ∧ ∀ x H', J1.yld j H x H' → g1 x (wipe σ2 vs1) H' fun σ3 H5 => wipe σ3 vs1 = wipe σ2 vs1 ∧ tt1 σ3 H5 fun b H6 =>
          if b = true then te σ3 H6 fun y H7 => ∃ acc, H7 D = some (.lst acc) ∧ acc.length < sizeLine ∧ Nx1 (upd H7 D (.lst (acc ++ [y]))) else Nx1 H6) else Nx H3)
    (hd : ∀ H, Pv n H → Qd H) :
    ∃ W : Nat → Nat → Hp → Prop, (∃ m, W 0 m (upd H1 D (.lst []))) ∧ ∀ i m H, W i m H →
  ((Itr lo n).stop i H ∧ Qd H) ∨ ((Itr lo n).go i H ∧ ∃ Nx : Hp → Prop, (∀ H', Nx H' → ∃ m', m' < m ∧ W (i + 1) m' H') ∧ ∀ x H', (Itr lo n).yld i H x H' → g x (wipe σ vs) H' fun σ2 H2 => wipe σ2 vs = wipe σ vs ∧ tt σ2 H2 fun b H3 =>
    if b = true then wi1 σ2 H3 fun J1 H4 => ∃ W1 : Nat → Nat → Hp → Prop, (∃ m, W1 0 m H4) ∧ ∀ j k H, W1 j k H →
        (J1.stop j H ∧ Nx H) ∨ (J1.go j H ∧ ∃ Nx1 : Hp → Prop, (∀ H', Nx1 H' → ∃ k', k' < k ∧ W1 (j + 1) k' H') ∧ ∀ x H', J1.yld j H x H' → g1 x (wipe σ2 vs1) H' fun σ3 H5 => wipe σ3 vs1 = wipe σ2 vs1 ∧ tt1 σ3 H5 fun b H6 =>
          if b = true then te σ3 H6 fun y H7 => ∃ acc, H7 D = some (.lst acc) ∧ acc.length < sizeLine ∧ Nx1 (upd H7 D (.lst (acc ++ [y]))) else Nx1 H6) else Nx H3) := by
  refine ⟨fun i k H => k = n - i ∧ i ≤ n ∧ Pv i H, ⟨n, by simp, Nat.zero_le _, h0⟩, ?_⟩
  rintro i k H ⟨rfl, hi, p⟩
  by_cases hlt : i < n
  · refine .inr ⟨hlt, Pv (i + 1), fun H' p' => ⟨n - (i + 1), by omega, rfl, hlt, p'⟩, fun x H' y => ?_⟩
    obtain ⟨e, y⟩ := y
    subst e y
    exact hs i _ hlt p _ fun _ z => z
  · have e : i = n := by omega
    subst e
    exact .inl ⟨Nat.le_refl _, hd _ p⟩
/-- the outer walk, over a list that stands still -/
theorem lc2_outL {K : PySem.W.Frag} {a : Addr} {xs : List V} {wi1 : TI} {g g1 : TG} {tt tt1 : TT} {te : TE} {vs vs1 : List Nat} {σ : L2.St} {H1 : Hp} {D : Addr} {Qd : Hp → Prop} (Pv : Nat → Hp → Prop) (h0 : Pv 0 (upd H1 D (.lst []))) (hl : ∀ i H, i ≤ xs.length → Pv i H → SqL K H a xs)
    (hs : ∀ i x H, xs[i]? = some x → Pv i H → ∀ Nx : Hp → Prop, (∀ H', Pv (i + 1) H' → Nx H') → g x (wipe σ vs) H fun σ2 H2 => wipe σ2 vs = wipe σ vs ∧ tt σ2 H2 fun b H3 => if b = true then wi1 σ2 H3 fun J1 H4 => ∃ W1 : Nat → Nat → Hp → Prop, (∃ m, W1 0 m H4) ∧ ∀ j k H, W1 j k H →
        (J1.stop j H ∧ Nx H) ∨ (J1.go j H ∧ ∃ Nx1 : Hp → Prop, (∀ H', Nx1 H' → ∃ k', k' < k ∧ W1 (j + 1) k' H') ∧ ∀ x H', J1.yld j H x H' → g1 x (wipe σ2 vs1) H' fun σ3 H5 => wipe σ3 vs1 = wipe σ2 vs1 ∧ tt1 σ3 H5 fun b H6 =>
          if b = true then te σ3 H6 fun y H7 => ∃ acc, H7 D = some (.lst acc) ∧ acc.length < sizeLine ∧ Nx1 (upd H7 D (.lst (acc ++ [y]))) else Nx1 H6) else Nx H3)
    (hd : ∀ H, Pv xs.length H → Qd H) :
    ∃ W : Nat → Nat → Hp → Prop, (∃ m, W 0 m (upd H1 D (.lst []))) ∧ ∀ i m H, W i m H →
  ((Itl K a).stop i H ∧ Qd H) ∨ ((Itl K a).go i H ∧ ∃ Nx : Hp → Prop, (∀ H', Nx H' → ∃ m', m' < m ∧ W (i + 1) m' H') ∧ ∀ x H', (Itl K a).yld i H x H' → g x (wipe σ vs) H' fun σ2 H2 => wipe σ2 vs = wipe σ vs ∧ tt σ2 H2 fun b H3 =>
    if b = true then wi1 σ2 H3 fun J1 H4 => ∃ W1 : Nat → Nat → Hp → Prop, (∃ m, W1 0 m H4) ∧ ∀ j k H, W1 j k H →
        (J1.stop j H ∧ Nx H) ∨ (J1.go j H ∧ ∃ Nx1 : Hp → Prop, (∀ H', Nx1 H' → ∃ k', k' < k ∧ W1 (j + 1) k' H') ∧ ∀ x H', J1.yld j H x H' → g1 x (wipe σ2 vs1) H' fun σ3 H5 => wipe σ3 vs1 = wipe σ2 vs1 ∧ tt1 σ3 H5 fun b H6 =>
          if b = true then te σ3 H6 fun y H7 => ∃ acc, H7 D = some (.lst acc) ∧ acc.length < sizeLine ∧ Nx1 (upd H7 D (.lst (acc ++ [y]))) else Nx1 H6) else Nx H3) := by
  refine ⟨fun i m H => m = xs.length - i ∧ i ≤ xs.length ∧ Pv i H, ⟨xs.length, by simp, Nat.zero_le _, h0⟩, ?_⟩
  rintro i m H ⟨rfl, hi, p⟩
  have q := hl i H hi p
  by_cases hlt : i < xs.length
  · refine .inr ⟨⟨xs, xs[i], q, by simp [hlt]⟩, Pv (i + 1), fun H' p' => ⟨xs.length - (i + 1), by omega, rfl, hlt, p'⟩, fun x H' y => ?_⟩
    obtain ⟨e, y⟩ := y
    subst e
    exact hs i x _ (y xs q) p _ fun _ z => z
  · have e : i = xs.length := by omega
    subst e
    exact .inl ⟨⟨xs, q, Nat.le_refl _⟩, hd H p⟩
theorem PairsAt.at {H : Hp} {us : List V} {ps : List (Nat × Nat)} (h : PairsAt H us ps) : ∀ {j : Nat} {v : V}, us[j]? = some v → ∃ p t, ps[j]? = some p ∧ v = .ref t ∧ H t = some (.tup [natV p.1, natV p.2]) := by
  have h : Paired (fun v (p : Nat × Nat) => ∃ t, v = .ref t ∧ H t = some (.tup [natV p.1, natV p.2])) us ps := h
  induction h with
  | nil => intro j v hv; cases hv
  | cons r _ ih =>
    intro j v hv
    cases j with
    | zero =>
      obtain rfl := Option.some.inj hv
      obtain ⟨t, e, ht⟩ := r
      exact ⟨_, t, rfl, e, ht⟩
    | succ j => exact ih (by assumption) hv
/-- x in t, t a tuple of data -/
def rInDT (K : PySem.W.Frag) : R2 := fun x y H Q => ∃ d ds, Dp K H x d ∧ Dp K H y (.tuple ds) ∧ SeqAt.shaped d = true ∧ SeqAt.shaped (.tuple ds) = true ∧ Q (.bl (ds.any fun z => PyData.eqv z d)) H
theorem op_inDT {X : Cx} (hu : X.A.units + 65 < cLine) : OpR X (compareOp .In) (rInDT X.K) := by
  intro pins s σ H x y v u Q I rx ry h
  obtain ⟨d, ds, hd, he, sd, se, q⟩ := h
  obtain ⟨as, r1⟩ := Dp.reads I d x v hd rx
  obtain ⟨bs, r2⟩ := Dp.reads I (.tuple ds) y u he ry
  exact SeqAt.in_tuple_reads r2 r1 (SeqAt.canLay_of_shaped se) (SeqAt.canLay_of_shaped sd) (room_in_shaped sd hu) ⟨.bl _, H, I, rfl, q⟩
theorem lay_pairsT (ps : List (Nat × Nat)) : LayD 2 (.tuple (ps.map dPair)) := LayD.tup fun d hd => by
  obtain ⟨p, _, rfl⟩ := List.mem_map.mp hd
  exact lay_pair p
theorem TupsAt.keep {H H' : Hp} {R : Addr} {us0 : List V} (hR : H R = some (.lst us0)) (s : Oth R H H') {us : List V} {ls : List (List Nat)} (h : TupsAt H us ls) : TupsAt H' us ls :=
  h.mono fun b xs e => s b _ (fun z => by rw [z, hR] at e; cases e) e
theorem TupsAt.at {H : Hp} {us : List V} {ls : List (List Nat)} (h : TupsAt H us ls) {j : Nat} {v : V} (hv : us[j]? = some v) : ∃ l t, ls[j]? = some l ∧ v = .ref t ∧ H t = some (.tup (l.map natV)) := by
  have hj : j < ls.length := by
    rw [← h.len]
    exact (List.getElem?_eq_some_iff.mp hv).1
  obtain ⟨t, e, ht⟩ := h.get (List.getElem?_eq_getElem hj)
  rw [hv] at e
  exact ⟨_, t, List.getElem?_eq_getElem hj, Option.some.inj e, ht⟩
theorem LsN.of_lists {R : Addr} {H : Hp} (hn : ∀ t o, H t = some o → t ≠ R) : ∀ {vs : List V} {ls : List (List Nat)}, ListsAt H vs ls → LsN R H vs ls
  | [], [], _ => .nil
  | _ :: _, _ :: _, .cons ⟨t, e, h⟩ r => .cons ⟨t, e, hn _ _ h, h⟩ (LsN.of_lists hn r)
theorem dp_lists {K : PySem.W.Frag} {H : Hp} : ∀ {vs : List V} {ls : List (List Nat)}, ListsAt H vs ls → DpAll K H vs (ls.map (dR false))
  | [], [], _ => .nil
  | _ :: _, _ :: _, .cons ⟨t, e, h⟩ r => by
    rw [e]
    exact .cons (.lst (SqL.of h) (dp_nats _)) (dp_lists r)
theorem dp_tupR {K : PySem.W.Frag} {H : Hp} : ∀ {vs : List V} {ls : List (List Nat)}, TupsAt H vs ls → DpAll K H vs (ls.map (dR true))
  | [], [], _ => .nil
  | _ :: _, _ :: _, .cons ⟨t, e, h⟩ r => by
    rw [e]
    exact .cons (.tup (SqT.of h) (dp_nats _)) (dp_tupR r)
theorem row_ints (row : List Nat) (z : Int) : row.map natV ++ [V.int z] = (row.map (fun (n : Nat) => (n : Int)) ++ [z]).map V.int := by
  rw [List.map_append, List.map_map]
  rfl
def HandLike (o : HO) : Prop := ∃ q i r t, o = .lst [.ref q, .int i, .int r, .int t]
def KI (H H' : Hp) : Prop := ∀ b o, H b = some o → ¬ HandLike o → H' b = some o
theorem KI.of {H H' : Hp} (s : Same H H') : KI H H' := fun b o e _ => s b o e
theorem KI.trans {H H1 H2 : Hp} (a : KI H H1) (b : KI H1 H2) : KI H H2 := fun c o e n => b c o (a c o e n) n
theorem KI.oth {p q : Addr} {H H' : Hp} (O : Oth p H H') (h : HandAt H p q) : KI H H' := fun b o e n => O b o (fun z => by
  obtain ⟨cs, i, r, t, h1, _⟩ := h
  rw [z, h1] at e
  exact n ⟨_, _, _, _, (Option.some.inj e).symm⟩) e
theorem nh_tup {xs : List V} : ¬ HandLike (.tup xs) := fun ⟨_, _, _, _, e⟩ => by cases e
theorem nh_ins {C dx : Addr} {fs : List (Str × V)} : ¬ HandLike (.ins C dx fs) := fun ⟨_, _, _, _, e⟩ => by cases e
theorem nh_hues {hs : List (Option Nat)} : ¬ HandLike (.lst (hs.map hV)) := fun ⟨_, _, _, _, e⟩ => by
  cases hs with
  | nil => cases e
  | cons o r =>
    injection e with e
    injection e with e _
    cases o <;> cases e
theorem nh_nats {l : List Nat} : ¬ HandLike (.lst (l.map natV)) := fun ⟨_, _, _, _, e⟩ => by
  cases l with
  | nil => cases e
  | cons n r =>
    injection e with e
    injection e with e _
    cases e
theorem nh_refs {us : List V} (h : ∀ v ∈ us, ∃ a, v = .ref a) : ¬ HandLike (.lst us) := fun ⟨_, i, _, _, e⟩ => by
  injection e with e
  obtain ⟨a, z⟩ := h (.int i) (by rw [e]; exact List.mem_cons_of_mem _ List.mem_cons_self)
  cases z
theorem RwN.refs {R : Addr} {H : Hp} : ∀ {vs : List V} {ls : List Ent}, RwN R H vs ls → ∀ v ∈ vs, ∃ a, v = .ref a
  | [], [], _, v, hv => by cases hv
  | _ :: _, _ :: _, .cons ⟨t, b, m, e, _⟩ r, v, hv => by
    rcases List.mem_cons.mp hv with z | hv
    · exact ⟨t, z.trans e⟩
    · exact RwN.refs r v hv
theorem ListsAt.refs {H : Hp} : ∀ {vs : List V} {ls : List (List Nat)}, ListsAt H vs ls → ∀ v ∈ vs, ∃ a, v = .ref a
  | [], [], _, v, hv => by cases hv
  | _ :: _, _ :: _, .cons ⟨t, e, _⟩ r, v, hv => by
    rcases List.mem_cons.mp hv with z | hv
    · exact ⟨t, z.trans e⟩
    · exact ListsAt.refs r v hv
theorem RwN.ki {R : Addr} {H H' : Hp} (k : KI H H') : ∀ {vs : List V} {ls : List Ent}, RwN R H vs ls → RwN R H' vs ls
  | [], [], _ => .nil
  | _ :: _, _ :: _, .cons ⟨t, b, m, e, n1, h1, n2, h2, n3, h3⟩ r => .cons ⟨t, b, m, e, n1, k _ _ h1 nh_tup, n2, k _ _ h2 nh_nats, n3, k _ _ h3 nh_nats⟩ (RwN.ki k r)
theorem RwN.new {R R' : Addr} {H : Hp} (hn : H R' = none) : ∀ {vs : List V} {ls : List Ent}, RwN R H vs ls → RwN R' H vs ls
  | [], [], _ => .nil
  | _ :: _, _ :: _, .cons ⟨t, b, m, e, n1, h1, n2, h2, n3, h3⟩ r => .cons ⟨t, b, m, e, ne_of_none h1 hn, h1, ne_of_none h2 hn, h2, ne_of_none h3 hn, h3⟩ (RwN.new hn r)
theorem ListsAt.ki {H H' : Hp} (k : KI H H') : ∀ {vs : List V} {ls : List (List Nat)}, ListsAt H vs ls → ListsAt H' vs ls
  | [], [], _ => .nil
  | _ :: _, _ :: _, .cons ⟨t, e, h⟩ r => .cons ⟨t, e, k _ _ h nh_nats⟩ (ListsAt.ki k r)
theorem WorldAt.ki {H H' : Hp} {p C : Addr} {ds : List Ent} (h : WorldAt H p C ds) (k : KI H H') : WorldAt H' p C ds := by
  have kt : TupK H H' := fun b xs e => k b _ e nh_tup
  obtain ⟨dx, ac, ab, ao, am, ae, ah, cs, bs, ms, es, hs, h1, h2, h3, h4, h5, h6, h7, h8, h9, h10, h11, h12⟩ := h
  exact ⟨dx, ac, ab, ao, am, ae, ah, cs, bs, ms, es, hs, k _ _ h1 nh_ins, kt _ _ h2, h3.mono kt, kt _ _ h4, h5.mono kt, kt _ _ h6, kt _ _ h7, h8.mono kt, kt _ _ h9, h10.mono kt, kt _ _ h11, h12.mono kt⟩
theorem HandAt.ne_of {H : Hp} {p q b : Addr} {o : HO} (h : HandAt H p q) (e : H b = some o) (n : ¬ HandLike o) : b ≠ p := fun z => by
  obtain ⟨cs, i, r, t, h1, _⟩ := h
  rw [z, h1] at e
  exact n ⟨_, _, _, _, (Option.some.inj e).symm⟩
section
variable {P : Program} {w : World} {K : PySem.W.Frag} {C Cb : Addr}
theorem world_q {H : Hp} {wp wdx l : Addr} {us : List V} {ds : List Ent} {Q : VK} {E : XK} (hl : H l = some (.lst us)) (hR : RwN l H us ds) (ok : DsOk ds) (h0 : 1 ≤ ds.length) (h12 : ds.length ≤ 12) (hwp : H wp = none) (hwdx : H wdx = none) (wne : wdx ≠ wp) (q : ∀ H', Same H H' → WorldAt H' wp C ds → Q .non H') :
    spWorld C Cb (.ref wp :: ([.ref l] ++ [])) (upd (upd H wdx (.own wp)) wp (.ins C wdx [])) Q E := by
  have s7 := (same_new (o := .own wp) hwdx).trans (same_new (o := .ins C wdx []) (by rw [upd_ne (Ne.symm wne)]; exact hwp))
  have W7 : upd (upd H wdx (.own wp)) wp (.ins C wdx []) wp = some (.ins C wdx []) := upd_same
  generalize upd (upd H wdx (.own wp)) wp (.ins C wdx []) = G7 at s7 W7 ⊢
  have usl := hR.len
  exact ⟨wp, wdx, .ref l, rfl, W7, .inr ⟨l, us, ds, rfl, .inl (s7 _ _ hl), by omega, by omega, by omega, (hR.keep (KeepX.of s7)).entries ok, .inr ⟨usl.symm, fun H8 O8 hW => q H8 (fun b u e => O8 b u (ne_of_none e hwp) (s7 _ _ e)) hW⟩⟩⟩
end
/-- max(t), t a tuple of whole numbers -/
def rMaxT (K : PySem.W.Frag) : List V → Hp → VK → Prop := fun vs H Q => ∃ (a : Addr) (ns : List Int), vs = [V.ref a] ∧ SqT K H a (ns.map V.int) ∧ 0 < ns.length ∧ ∀ m, m ∈ ns → (∀ y, y ∈ ns → y ≤ m) → Q (.int m) H
theorem foldl_max : ∀ (ns : List Int) (n : Int), n ≤ ns.foldl max n ∧ ∀ y ∈ ns, y ≤ ns.foldl max n
  | [], n => ⟨by show n ≤ n; omega, fun y hy => by cases hy⟩
  | a :: r, n => by
    obtain ⟨h1, h2⟩ := foldl_max r (max n a)
    show n ≤ r.foldl max (max n a) ∧ ∀ y ∈ a :: r, y ≤ r.foldl max (max n a)
    refine ⟨by omega, fun y hy => ?_⟩
    rcases List.mem_cons.mp hy with rfl | hy
    · omega
    · exact h2 y hy
theorem dp_ints {K : PySem.W.Frag} {H : Hp} : ∀ ns : List Int, DpAll K H (ns.map V.int) (ns.map .int)
  | [] => .nil
  | n :: r => .cons (.int _) (dp_ints r)
theorem depth_intsI : ∀ ns : List Int, PyData.depthAll (ns.map .int) = 0
  | [] => by simp [PyData.depthAll]
  | a :: r => by
    rw [List.map_cons, PyData.depthAll, depth_intsI r]
    simp [PyData.depth]
theorem call_maxT {X : Cx} (hc : X.calm = true) (hu : X.A.units + 65 < cLine) : CallR X (.builtin "max") (rMaxT X.K) := by
  intro pins s σ H vs us Q I r h
  obtain ⟨a, ns, rfl, hs, hne, q⟩ := h
  obtain ⟨its, rv, hl, _⟩ := I.tuple hs
  rw [Vals.ref1 r]
  obtain ⟨as, hr⟩ := Dp.readsAll I _ _ _ (dp_ints (K := X.K) (H := H) ns) rv
  match ns, hne with
  | n :: ns, _ =>
    have ha : PySem.W.AlikeAll ((n :: ns).map PyData.int) := by
      refine ⟨fun x hx y hy => ?_, fun x hx => ?_⟩
      · obtain ⟨p, _, rfl⟩ := List.mem_map.mp hx
        obtain ⟨p', _, rfl⟩ := List.mem_map.mp hy
        simp [PySem.W.alike]
      · obtain ⟨p, _, rfl⟩ := List.mem_map.mp hx
        simp
    have hdep := depth_intsI (n :: ns)
    refine PySem.W.max_tuple_data (x := .int n) (xs := ns.map .int) (I.ok.hd hc) hl hr ha (by have : PyData.depthAll (.int n :: ns.map .int) = 0 := hdep; omega) fun i v h' tk bs hv rd hk => ?_
    have hv' : its[i]? = some v := by
      rw [← hv]
      simp
    obtain ⟨u, hu1, hu2⟩ := vals_at rv i v hv'
    have hr' : ReadsAll s.heap its ((n :: ns).map PyData.int) as := hr
    obtain ⟨bs2, rd2, hi, _, _⟩ := PySem.W.readsAll_at hr' i v hv'
    rw [List.length_map] at hi
    obtain ⟨ri, hri⟩ : ∃ ri, (n :: ns)[i]? = some ri := ⟨_, List.getElem?_eq_getElem hi⟩
    have e1 : ((n :: ns).map PyData.int).getD i .none = .int ri := by
      rw [List.getD_eq_getElem?_getD, List.getElem?_map, hri]
      rfl
    rw [e1] at rd2
    rw [PySem.W.maxD_ints] at rd
    have e2 := PySem.W.alike_unique (.int ri) (.int (ns.foldl max n)) _ _ _ (by simp [PySem.W.alike]) (PySem.W.reads_keeps hk rd2) rd
    have e3 : ri = ns.foldl max n := PyData.int.inj e2
    rw [List.getElem?_map, hri] at hu1
    obtain rfl := Option.some.inj hu1
    refine ⟨.int ri, H, I.kept hk, hu2, q ri (List.mem_of_getElem? hri) fun y hy => ?_⟩
    obtain ⟨h1, h2⟩ := foldl_max ns n
    rw [e3]
    rcases List.mem_cons.mp hy with rfl | hy
    · exact h1
    · exact h2 y hy
theorem tIfS_join {c : TT} {tb te : TS} {nx bk ct : L2.St → Hp → Prop} {rt : VK} {σ : L2.St} {H : Hp} (Inv : L2.St → Hp → Prop) (k : ∀ σ H, Inv σ H → nx σ H) (h : ∀ N : L2.St → Hp → Prop, (∀ σ H, Inv σ H → N σ H) → tIfS c tb te ⟨N, rt, bk, ct⟩ σ H) : tIfS c tb te ⟨nx, rt, bk, ct⟩ σ H := h nx k
theorem RwN.set {R : Addr} {H : Hp} {t b m : Addr} {d : Ent} (n1 : t ≠ R) (h1 : H t = some (.tup [.ref b, natV d.2.1, .ref m])) (n2 : b ≠ R) (h2 : H b = some (.lst (d.1.map natV))) (n3 : m ≠ R) (h3 : H m = some (.lst (d.2.2.map natV))) : ∀ {vs : List V} {ls : List Ent} (i : Nat), RwN R H vs ls → RwN R H (vs.set i (.ref t)) (ls.set i d)
  | [], [], _, _ => .nil
  | _ :: _, _ :: _, 0, .cons _ r => .cons ⟨t, b, m, rfl, n1, h1, n2, h2, n3, h3⟩ r
  | _ :: _, _ :: _, i + 1, .cons z r => .cons z (RwN.set n1 h1 n2 h2 n3 h3 i r)
theorem exact_pairs {H : Hp} {t1 t2 : Addr} {us1 us2 : List V} {ps : List (Nat × Nat)} (h1 : H t1 = some (.tup us1)) (h2 : H t2 = some (.tup us2)) (hP1 : PairsAt H us1 ps) (hP2 : PairsAt H us2 ps) (hl : ps.length ≤ 1000) : Exact H 2 (.ref t1) (.ref t2) := by
  refine .inr ⟨t1, t2, us1, us2, rfl, rfl, .inl h1, .inl h2, by rw [hP1.len, hP2.len], by rw [hP2.len]; exact hl, fun i u v hu hv => ?_⟩
  obtain ⟨p1, a1, e1, rfl, g1⟩ := hP1.at hu
  obtain ⟨p2, a2, e2, rfl, g2⟩ := hP2.at hv
  rw [e1] at e2
  obtain rfl := Option.some.inj e2
  exact Exact.tup 0 g1 g2 (fun v hv => by
    rcases List.mem_cons.mp hv with rfl | hv
    · exact True.intro
    · rw [List.mem_singleton.mp hv]
      exact True.intro) (by show 2 ≤ 1000; decide)
theorem tIf_join {c : TT} {a b : TE} {σ : L2.St} {H : Hp} {Q : VK} (Inv : V → Hp → Prop) (k : ∀ v H, Inv v H → Q v H) (h : ∀ Q' : VK, (∀ v H, Inv v H → Q' v H) → tIf c a b σ H Q') : tIf c a b σ H Q := h Q k
end K59

set_option maxRecDepth 100000
set_option maxHeartbeats 8000000
namespace K59
open PySem PySem.Spec PyProof.Rows L2 Kw
section
variable {P : Program} {w : World} {K : PySem.W.Frag} {mg : Str → Option Value} {base : Heap} {f fW fN fC C Cn : Addr} {fd fdW fdN fdC : FuncData}
def spOnLine (C Cn : Addr) : Sp := fun vs H Q E => ∃ (p : Addr) (a b : V) (ta tb : String) (ds : List Ent), vs = [.ref p, a, b] ∧ WorldAt H p C ds ∧ Ty0 H a ta ∧ Ty0 H b tb ∧
  ((wholeB (.int 0) (.int ((ds.length : Int) - 1)) a = false ∧ ∀ d H', Same H H' → H' d = some (.xd (errF ["cls"] [a])) → E (.ref Cn) (some d) H') ∨
   (wholeB (.int 0) (.int ((ds.length : Int) - 1)) a = true ∧ wholeB (.int 0) (.int ((ds.length : Int) - 1)) b = false ∧ ∀ d H', Same H H' → H' d = some (.xd (errF ["cls"] [b])) → E (.ref Cn) (some d) H') ∨
   ∃ x y : Nat, a = natV x ∧ b = natV y ∧ x < ds.length ∧ y < ds.length ∧ ∀ H', Same H H' → Q (.bl (onLine (elsOf ds) x y)) H')
end
end K59

set_option maxRecDepth 100000
set_option maxHeartbeats 8000000
namespace K59
open PySem PySem.Spec PyProof.Rows L2 Kw
/-! ### definers -/
def methsOf (ds : List Ent) (k : Nat) : List Nat := (ds.getD k ([], 0, [])).2.2
theorem WorldAt.meth {H : Hp} {p C : Addr} {ds : List Ent} (h : WorldAt H p C ds) (ok : DsOk ds) {x : Nat} (hx : x < ds.length) : ∃ (dx : Addr) (fs : List (Str × V)) (am : Addr) (ms : List V) (t : Addr), H p = some (.ins C dx fs) ∧ List.lookup ("methods" : Str) fs = some (V.ref am) ∧ H am = some (.tup ms) ∧ ms[x]? = some (.ref t) ∧ H t = some (.tup ((methsOf ds x).map natV)) := by
  obtain ⟨dx, ac, ab, ao, am, ae, ah, cs, bs, ms, es, hs, h1, h2, h3, h4, h5, h6, h7, h8, h9, h10, h11, h12⟩ := h
  obtain ⟨d, hd⟩ : ∃ d, ds[x]? = some d := ⟨_, List.getElem?_eq_getElem hx⟩
  obtain ⟨t, e1, e2⟩ := h8.get (i := x) (l := sortN d.2.2) (by rw [List.getElem?_map, hd]; rfl)
  obtain ⟨o1, o2, o3, o4, o5, o6, o7⟩ := ok x d hd
  refine ⟨dx, _, am, ms, t, h1, rfl, h7, e1, ?_⟩
  rw [sortN_nat o5 o6] at e2
  unfold methsOf
  rw [List.getD_eq_getElem?_getD, hd]
  exact e2
theorem meths_len {ds : List Ent} (ok : DsOk ds) (x : Nat) : (methsOf ds x).length ≤ 3 := by
  unfold methsOf
  rw [List.getD_eq_getElem?_getD]
  cases e : ds[x]? with
  | none => exact Nat.zero_le _
  | some d => exact (ok x d e).2.2.2.2.2.2
/-- the classes among one and its elders that define a name -/
def defL (ds : List Ent) (c m : Nat) : List Nat := ((kins (elsOf ds)).getD c []).filter fun k => (methsOf ds k).contains m
/-- those that no other one has as an elder -/
def topsL (els : List (List Nat)) (xs : List Nat) : List Nat := xs.filter fun k => !(xs.any fun h => (els.getD h []).contains k)
theorem take_filterN {p : Nat → Bool} {bs : List Nat} {j x : Nat} (h : bs[j]? = some x) : (bs.take (j + 1)).filter p = (bs.take j).filter p ++ (if p x = true then [x] else []) := by
  rw [List.take_add_one, h, Option.toList_some, List.filter_append]
  congr 1
  cases c : p x with
  | true => rw [List.filter_cons_of_pos (by exact c)]; rfl
  | false => rw [List.filter_cons_of_neg (by rw [c]; decide)]; rfl
theorem kins_mem_lt {ds : List Ent} (ok : DsOk ds) {c k : Nat} (hc : c < ds.length) (hk : k ∈ (kins (elsOf ds)).getD c []) : k < ds.length := by
  have := ok.kins.le c (by rw [kinsL]; exact hc) k hk
  omega
section
variable {P : Program} {w : World} {K : PySem.W.Frag} {mg : Str → Option Value} {base : Heap} {f fC fW fN fN2 fD fA fL C Cn Cx : Addr} {fd fdC fdW fdN fdN2 fdD fdA fdL : FuncData}
def spName : Sp := fun vs H Q _ => ∃ m : Nat, vs = [natV m] ∧ m < 6 ∧ Q (natV m) H
theorem sc_name : FnScope ["name"] ["name"] (defScope (top 23)) := ⟨rfl, rfl, rfl, by decide +kernel, rfl, by decide +kernel, by decide +kernel⟩
theorem ok_name (F : FnP K "check_name" 23 f fd) (B : Fr mg) (Z : Cst mg) (FW : FnDf K "is_whole" 9 [.non, .non] fW fdW) (mW : mg "is_whole" = some (.ref fW)) : FnOk P w K mg base CX0 2 f fd ["name"] spName := by
  have GW : FnOk P w K mg base CX0 1 fW fdW ["thing", "low", "high"] spWhole := ok_whole FW B
  have bW := binds_whole3 FW
  obtain ⟨t6, z6⟩ := Z.mn
  refine F.ok sc_name (fun vs H Q E h => ?_) (fun cdv A outer s H vs Q E hr h => ?_)
  · obtain ⟨m, rfl, _⟩ := h
    rfl
  · obtain ⟨m, rfl, hm, k⟩ := h
    refine ⟨_, PSs.nox (pss_cons (ps_if (pt_not (pt_val (pe_call GW hr (by rfl) mW FW.kp bW .nil pass0 (pa_cons (pv 0) (pa_cons pe_int (pa_cons (pe_op op_sub (pe_glob (v := .int 6) (by rfl) z6 ⟨_, rfl⟩) pe_int) pa_nil)))))) (pss_one ps_never) pss_nil) (pss_one (ps_ret (pv 0)))), ?_⟩
    refine ⟨_, rfl, _, _, rfl, rfl, natV m, _, _, "int", rfl, .int _, .inr ⟨_, rfl⟩, .inr ⟨_, rfl⟩, _, rfl, ?_⟩
    have e : wholeB (.int 0) (.int (6 - 1)) (natV m) = true := whole_of (n := 6) hm
    rw [e]
    exact iteF' rfl ⟨_, rfl, k⟩
def spDefining (C : Addr) : Sp := fun vs H Q _ => ∃ (p : Addr) (ds : List Ent) (c m : Nat), vs = [.ref p, natV c, natV m] ∧ WorldAt H p C ds ∧ DsOk ds ∧ c < ds.length ∧ ds.length ≤ 12 ∧ m < 6 ∧
  ∀ t H', Same H H' → H' t = some (.tup ((defL ds c m).map natV)) → Q (.ref t) H'
theorem sc_defining : FnScope ["world", "c", "name", "k"] ["world", "c", "name"] (defScope (top 24)) := ⟨rfl, rfl, rfl, by decide +kernel, rfl, by decide +kernel, by decide +kernel⟩
theorem ok_defining (F : FnP K "defining_of" 24 f fd) (B : Fr mg) (TC : ClsWorld K mg C) (FC : FnP K "check_class" 12 fC fdC) (mC : mg "check_class" = some (.ref fC)) (FW : FnDf K "is_whole" 9 [.non, .non] fW fdW) (mW : mg "is_whole" = some (.ref fW)) (FN : FnM K "__init__" "NoClass.__init__" (inClass (top 4) 0) fN fdN) (TN : ErrX K mg "NoClass" ["cls"] Cn fN)
    (FN2 : FnP K "check_name" 23 fN2 fdN2) (mN2 : mg "check_name" = some (.ref fN2)) (Z : Cst mg) : FnOk P w K mg base CX0 4 f fd ["world", "c", "name"] (spDefining C) := by
  have GC : FnOk P w K mg base (L2.CX P w) 3 fC fdC ["world", "c"] (spCheck C Cn) := ok_check FC B TC FW mW FN TN
  have bC : L2.Binds K fdC ["world", "c"] [] := FC.bindsN fun _ _ _ _ _ _ us hl => match us, hl with | [_, _], _ => rfl
  have GN2 : FnOk P w K mg base CX0 2 fN2 fdN2 ["name"] spName := ok_name FN2 B Z FW mW
  have bN2 : L2.Binds K fdN2 ["name"] [] := FN2.bindsN fun _ _ _ _ _ _ us hl => match us, hl with | [_], _ => rfl
  refine F.ok sc_defining (fun vs H Q E h => ?_) (fun cdv A outer s H vs Q E hr h => ?_)
  · obtain ⟨p, ds, c, m, rfl, _⟩ := h
    rfl
  · obtain ⟨p, ds, c, m, rfl, hw, ok, hc, h12, hm, k⟩ := h
    refine ⟨_, PSs.nox (pss_cons (ps_expr (pe_call GC hr (by rfl) mC FC.kp bC .nil (passOut (E := fun _ _ _ => False)) (pa_cons (pv 0) (pa_cons (pv 1) pa_nil))))
      (pss_cons (ps_expr (pe_call GN2 (hr.mono (by decide)) (by rfl) mN2 FN2.kp bN2 .nil pass0 (pa_cons (pv 2) pa_nil)))
      (pss_one (ps_ret (pe_callTy (T := "tuple") (r := rTupOf K) (call_tup (X := _)) (by rfl) B.tuple (by decide +kernel) (pa_cons
        (pe_lc (own := [("k", 3)]) (g := gName 3) (tt := tTest (tOp (rIn K false) (tVar 2) (tOp (rIxT K) (tFld K (tVar 0) "methods") (tVar 3)))) (te := tVar 3) rfl sc_defining.nd (pi_tup (pe_op (r := rCatQ K) op_catQ (pe_ix (r := rIxT K) ix_tup (pe_fld (pv 0) rfl) (pv 1) (fun _ _ => rfl)) (pe_tup (pa_cons (pv 1) pa_nil)))) (blkOk_by (N := ["world", "c", "name", "k"]) (sc := defScope (top 24)) (by decide +kernel))
          (fun _ _ _ _ _ => pg_name (i := 3) sc_defining.nd rfl (Or.inl rfl)) (fun _ _ _ _ _ => ?tt) (fun _ _ _ _ _ => pv 3)) pa_nil)))))), ?_⟩
    case tt => exact pts_one (pt_cmpR (r := rIn K false) op_in_seq (pv 2) (pe_ix (r := rIxT K) ix_tup (pe_fld (pv 0) rfl) (pv 3) (fun _ _ => rfl)) (by rfl))
    refine ⟨_, rfl, _, rfl, p, natV c, "int", ds, rfl, hw, .int _, .inl ⟨whole_of hc, fun H1 s1 => ?_⟩⟩
    refine ⟨_, rfl, m, rfl, hm, ?_⟩
    have hw1 := hw.mono s1
    obtain ⟨dx, fs, ae, es, t1, p1, p2, p3, p4, p5⟩ := hw1.elder hc
    refine ⟨_, rfl, p, C, dx, _, _, rfl, p1, TC.cl, TC.no _ (List.mem_of_getElem? (i := 4) rfl), p2, _, rfl, ae, es, (c : Int), _, rfl, rfl, SqT.of p3, atI_nat p4, _, rfl, (by show 1 ≤ sizeLine; decide), fun T hT => ?_⟩
    have sT := same_new (o := .tup [natV c]) hT
    have elen : ((elsOf ds).getD c []).length ≤ 12 := by
      have := kin_len ok hc h12
      rw [kins_els hc, List.length_append] at this
      omega
    refine cat_q (xs := ((elsOf ds).getD c []).map natV) (ys := [natV c]) p5 upd_same (by rw [List.length_map]; show _ + 1 ≤ 2 ^ 24; omega) sT fun t2 H2 s2 ht2 => ?_
    have ek : ((elsOf ds).getD c []).map natV ++ [natV c] = ((kins (elsOf ds)).getD c []).map natV := by
      rw [kins_els hc, List.map_append]
      rfl
    rw [ek] at ht2
    have s12 := s1.trans s2
    refine ⟨t2, rfl, ⟨_, SqT.of ht2⟩, fun D hD => lc_tup (K := K) (a := t2) (xs := ((kins (elsOf ds)).getD c []).map natV) (fun j H' => Same H2 H' ∧ H' D = some (.lst (((((kins (elsOf ds)).getD c []).take j).filter fun k => (methsOf ds k).contains m).map natV))) ⟨same_new hD, upd_same⟩ (fun j H' _ z => SqT.of (z.1 _ _ ht2)) ?_ ?_⟩
    · rintro j v H3 hj ⟨s3, hD3⟩
      rw [List.getElem?_map] at hj
      obtain ⟨x, hx, rfl⟩ := Option.map_eq_some_iff.mp hj
      have xl := kins_mem_lt ok hc (List.mem_of_getElem? hx)
      obtain ⟨dx', fs', am, ms, t4, q1, q2, q3, q4, q5⟩ := (hw.mono (s12.trans s3)).meth ok xl
      refine ⟨rfl, _, rfl, _, rfl, p, C, dx', _, _, rfl, q1, TC.cl, TC.no _ (List.mem_of_getElem? (i := 3) rfl), q2, _, rfl, am, ms, (x : Int), _, rfl, rfl, SqT.of q3, atI_nat q4, t4, _, rfl, .inr (SqT.of q5), rfl, flat_nats _, _, rfl, ?_⟩
      have ein : inV (natV m) ((methsOf ds x).map natV) = (methsOf ds x).contains m := inV_nat _ _
      show (if inV (natV m) ((methsOf ds x).map natV) = true then _ else _)
      rw [ein]
      have st := take_filterN (p := fun k => (methsOf ds k).contains m) hx
      cases hb : (methsOf ds x).contains m with
      | true =>
        rw [hb, if_pos rfl] at st
        refine iteT' rfl ⟨_, rfl, _, hD3, ?_, same_upd s3 hD, by rw [st, List.map_append, upd_same]; rfl⟩
        rw [List.length_map]
        refine Nat.lt_of_le_of_lt (List.length_filter_le _ _) ?_
        rw [List.length_take]
        have := kin_len ok hc h12
        show _ < 2 ^ 24
        omega
      | false =>
        rw [hb, if_neg (by decide), List.append_nil] at st
        exact iteF' rfl ⟨s3, by rw [st]; exact hD3⟩
    · rintro H3 ⟨s3, hD3⟩
      rw [List.length_map, List.take_length] at hD3
      exact tup_q (.inl hD3) fun t H4 s4 ht => k t H4 ((s12.trans s3).trans s4) ht
end
end K59

set_option maxRecDepth 100000
set_option maxHeartbeats 8000000
namespace K59
open PySem PySem.Spec PyProof.Rows L2 Kw
def ansL (ds : List Ent) (c m : Nat) : List Nat := topsL (elsOf ds) (defL ds c m)
theorem defL_lt {ds : List Ent} (ok : DsOk ds) {c m : Nat} (hc : c < ds.length) : ∀ k ∈ defL ds c m, k < ds.length := fun k hk => kins_mem_lt ok hc (List.mem_filter.mp hk).1
theorem defL_len {ds : List Ent} (ok : DsOk ds) {c m : Nat} (hc : c < ds.length) (h12 : ds.length ≤ 12) : (defL ds c m).length ≤ 12 := Nat.le_trans (List.length_filter_le _ _) (kin_len ok hc h12)
theorem topsL_len {els : List (List Nat)} {xs : List Nat} : (topsL els xs).length ≤ xs.length := List.length_filter_le _ _
section
variable {P : Program} {w : World} {K : PySem.W.Frag} {mg : Str → Option Value} {base : Heap} {f fD fL fA fX fY C Cn Ct : Addr} {fd fdD fdL fdA fdX fdY : FuncData}
def spLast (C : Addr) : Sp := fun vs H Q _ => ∃ (p r : Addr) (ds : List Ent) (xs : List Nat), vs = [.ref p, .ref r] ∧ WorldAt H p C ds ∧ DsOk ds ∧ H r = some (.tup (xs.map natV)) ∧ (∀ x ∈ xs, x < ds.length) ∧ ds.length ≤ 12 ∧ xs.length ≤ 12 ∧
  ∀ t H', Same H H' → H' t = some (.tup ((topsL (elsOf ds) xs).map natV)) → Q (.ref t) H'
theorem sc_last : FnScope ["world", "classes", "k", "heir"] ["world", "classes"] (defScope (top 26)) := ⟨rfl, rfl, rfl, by decide +kernel, rfl, by decide +kernel, by decide +kernel⟩
theorem ok_last (F : FnP K "last_heirs" 26 f fd) (B : Fr mg) (gAny : mg "any" = none) (TC : ClsWorld K mg C) : FnOk P w K mg base CX0 1 f fd ["world", "classes"] (spLast C) := by
  refine F.ok sc_last (fun vs H Q E h => ?_) (fun cdv A outer s H vs Q E hr h => ?_)
  · obtain ⟨p, r, ds, xs, rfl, _⟩ := h
    rfl
  · obtain ⟨p, r, ds, xs, rfl, hw, ok, hR, hx, h12, x12, k⟩ := h
    refine ⟨_, PSs.nox (pss_one (ps_ret (pe_callTy (T := "tuple") (r := rTupOf K) (call_tup (X := _)) (by rfl) B.tuple (by decide +kernel) (pa_cons
        (pe_lc (own := [("k", 2)]) (g := gName 2) (tt := tNot (tB (tCB (rAny K) (tCons (tLc (iTup K (tVar 1)) (gName 3) tYes (tOp (rIn K false) (tVar 2) (tOp (rIxT K) (tFld K (tVar 0) "elders") (tVar 3))) (List.map (fun x => x.snd) [("heir", 3)])) tNil)))) (te := tVar 2) rfl sc_last.nd (pi_tup (pv 1)) (blkOk_by (N := ["world", "classes", "k", "heir"]) (sc := defScope (top 26)) (by decide +kernel))
          (fun _ _ _ _ _ => pg_name (i := 2) sc_last.nd rfl (Or.inr rfl)) (fun _ _ _ _ _ => ?tt) (fun _ _ _ _ _ => pv 2)) pa_nil)))), ?_⟩
    case tt =>
      refine pts_one (pt_not (pt_val (pe_callB (id := "any") (r := rAny K) (cr_any rfl) (by rfl) gAny (by decide +kernel) (pa_cons (pe_lc (own := [("heir", 3)]) (g := gName 3) (tt := tYes) (te := tOp (rIn K false) (tVar 2) (tOp (rIxT K) (tFld K (tVar 0) "elders") (tVar 3))) rfl sc_last.nd (pi_tup (pv 1)) (blkOk_by (by rfl))
          (fun _ _ _ _ _ => pg_name (i := 3) sc_last.nd rfl (Or.inl rfl)) (fun _ _ _ _ _ => pts_nil) (fun _ _ _ _ _ => ?te)) pa_nil))))
      exact pe_cmpR (r := rIn K false) op_in_seq (pv 2) (pe_ix (r := rIxT K) ix_tup (pe_fld (pv 0) rfl) (pv 3) (fun _ _ => rfl)) (by rfl)
    refine ⟨_, rfl, r, rfl, ⟨_, SqT.of hR⟩, fun D hD => lc_tup (K := K) (a := r) (xs := xs.map natV) (fun j H' => Same H H' ∧ H' D = some (.lst (((xs.take j).filter fun k => !(xs.any fun h => ((elsOf ds).getD h []).contains k)).map natV))) ⟨same_new hD, upd_same⟩ (fun j H' _ z => SqT.of (z.1 _ _ hR)) ?_ ?_⟩
    · rintro j v H2 hj ⟨s2, hD2⟩
      rw [List.getElem?_map] at hj
      obtain ⟨x, hxx, rfl⟩ := Option.map_eq_some_iff.mp hj
      refine ⟨rfl, _, rfl, r, rfl, ⟨_, SqT.of (s2 _ _ hR)⟩, fun D2 hD2' => lc_tup (K := K) (a := r) (xs := xs.map natV) (fun j H' => Same H2 H' ∧ H' D2 = some (.lst (((xs.take j).map fun h => ((elsOf ds).getD h []).contains x).map V.bl))) ⟨same_new hD2', upd_same⟩ (fun j H' _ z => SqT.of (z.1 _ _ (s2 _ _ hR))) ?_ ?_⟩
      · rintro m v H3 hm ⟨s3, hD3⟩
        rw [List.getElem?_map] at hm
        obtain ⟨y, hy, rfl⟩ := Option.map_eq_some_iff.mp hm
        have yl := hx y (List.mem_of_getElem? hy)
        obtain ⟨dx, fs, ae, es, t1, p1, p2, p3, p4, p5⟩ := ((hw.mono s2).mono s3).elder yl
        refine ⟨rfl, _, rfl, _, rfl, p, C, dx, _, _, rfl, p1, TC.cl, TC.no _ (List.mem_of_getElem? (i := 4) rfl), p2, _, rfl, ae, es, (y : Int), _, rfl, rfl, SqT.of p3, atI_nat p4, t1, _, rfl, .inr (SqT.of p5), rfl, flat_nats _, ?_⟩
        have ein : inV (natV x) (((elsOf ds).getD y []).map natV) = ((elsOf ds).getD y []).contains x := inV_nat _ _
        refine ⟨_, hD3, ?_, same_upd s3 hD2', ?_⟩
        · rw [List.length_map, List.length_map, List.length_take]
          show _ < 2 ^ 24
          omega
        · rw [upd_same, List.take_add_one, hy, Option.toList_some, List.map_append, List.map_append]
          show some (HO.lst (_ ++ [V.bl (inV (natV x) (((elsOf ds).getD y []).map natV))])) = _
          rw [ein]
          rfl
      · rintro H3 ⟨s3, hD3⟩
        rw [List.length_map, List.take_length] at hD3
        refine ⟨D2, _, rfl, SqL.of hD3, _, rfl, ?_⟩
        have e : (!((xs.map fun h => ((elsOf ds).getD h []).contains x).any id)) = !(xs.any fun h => ((elsOf ds).getD h []).contains x) := by
          rw [List.any_map]
          rfl
        show (if (!((xs.map fun h => ((elsOf ds).getD h []).contains x).any id)) = true then _ else _)
        rw [e]
        have st := take_filterN (p := fun k => !(xs.any fun h => ((elsOf ds).getD h []).contains k)) hxx
        have hDD := s3 _ _ hD2
        cases hb : xs.any fun h => ((elsOf ds).getD h []).contains x with
        | false =>
          rw [hb, if_pos (show (!false) = true from rfl)] at st
          refine iteT' rfl ⟨_, rfl, _, hDD, ?_, same_upd (s2.trans s3) hD, by rw [st, List.map_append, upd_same]; rfl⟩
          rw [List.length_map]
          refine Nat.lt_of_le_of_lt (List.length_filter_le _ _) ?_
          rw [List.length_take]
          show _ < 2 ^ 24
          omega
        | true =>
          rw [hb, if_neg (show ¬ (!true) = true from fun z => by cases z), List.append_nil] at st
          exact iteF' rfl ⟨s2.trans s3, by rw [st]; exact hDD⟩
    · rintro H2 ⟨s2, hD2⟩
      rw [List.length_map, List.take_length] at hD2
      exact tup_q (.inl hD2) fun t H4 s4 ht => k t H4 (s2.trans s4) ht
def spAnswers (C : Addr) : Sp := fun vs H Q _ => ∃ (p : Addr) (ds : List Ent) (c m : Nat), vs = [.ref p, natV c, natV m] ∧ WorldAt H p C ds ∧ DsOk ds ∧ c < ds.length ∧ ds.length ≤ 12 ∧ m < 6 ∧
  ∀ t H', Same H H' → H' t = some (.tup ((ansL ds c m).map natV)) → Q (.ref t) H'
theorem sc_answers : FnScope ["world", "c", "name"] ["world", "c", "name"] (defScope (top 25)) := ⟨rfl, rfl, rfl, by decide +kernel, rfl, by decide +kernel, by decide +kernel⟩
theorem ok_answers (F : FnP K "answers_of" 25 f fd) (FD : FnP K "defining_of" 24 fD fdD) (mD : mg "defining_of" = some (.ref fD)) (GD : FnOk P w K mg base CX0 4 fD fdD ["world", "c", "name"] (spDefining C))
    (FL : FnP K "last_heirs" 26 fL fdL) (mL : mg "last_heirs" = some (.ref fL)) (GL : FnOk P w K mg base CX0 1 fL fdL ["world", "classes"] (spLast C)) : FnOk P w K mg base CX0 5 f fd ["world", "c", "name"] (spAnswers C) := by
  have bD : L2.Binds K fdD ["world", "c", "name"] [] := FD.bindsN fun _ _ _ _ _ _ us hl => match us, hl with | [_, _, _], _ => rfl
  have bL : L2.Binds K fdL ["world", "classes"] [] := FL.bindsN fun _ _ _ _ _ _ us hl => match us, hl with | [_, _], _ => rfl
  refine F.ok sc_answers (fun vs H Q E h => ?_) (fun cdv A outer s H vs Q E hr h => ?_)
  · obtain ⟨p, ds, c, m, rfl, _⟩ := h
    rfl
  · obtain ⟨p, ds, c, m, rfl, hw, ok, hc, h12, hm, k⟩ := h
    refine ⟨_, PSs.nox (pss_one (ps_ret (pe_call GL (hr.mono (by decide)) (by rfl) mL FL.kp bL .nil pass0 (pa_cons (pv 0) (pa_cons (pe_call GD hr (by rfl) mD FD.kp bD .nil pass0 (pa_cons (pv 0) (pa_cons (pv 1) (pa_cons (pv 2) pa_nil)))) pa_nil))))), ?_⟩
    refine ⟨_, rfl, _, rfl, _, rfl, _, rfl, p, ds, c, m, rfl, hw, ok, hc, h12, hm, fun t H1 s1 ht => ?_⟩
    exact ⟨p, t, ds, _, rfl, hw.mono s1, ok, ht, defL_lt ok hc, h12, defL_len ok hc h12, fun t2 H2 s2 ht2 => k t2 H2 (s1.trans s2) ht2⟩
end
end K59

set_option maxRecDepth 100000
set_option maxHeartbeats 8000000
namespace K59
open PySem PySem.Spec PyProof.Rows L2 Kw
def twoIn (ds : List Ent) (c j : Nat) : List (Nat × Nat) := ((List.range j).filter fun m => decide (1 < (ansL ds c m).length)).map fun m => (c, m)
def twoUp (ds : List Ent) (i : Nat) : List (Nat × Nat) := (List.range i).flatMap fun c => twoIn ds c 6
theorem filter_takeN (p : Nat → Bool) (i : Nat) : (List.range (i + 1)).filter p = (List.range i).filter p ++ (if p i = true then [i] else []) := by
  rw [List.range_succ, List.filter_append]
  congr 1
  cases c : p i with
  | true => rw [List.filter_cons_of_pos (by exact c)]; rfl
  | false => rw [List.filter_cons_of_neg (by rw [c]; decide)]; rfl
theorem twoIn_succ {ds : List Ent} {c j : Nat} : twoIn ds c (j + 1) = twoIn ds c j ++ (if decide (1 < (ansL ds c j).length) = true then [(c, j)] else []) := by
  unfold twoIn
  rw [filter_takeN (fun m => decide (1 < (ansL ds c m).length)) j, List.map_append]
  congr 1
  split <;> rfl
theorem twoUp_succ {ds : List Ent} {i : Nat} : twoUp ds (i + 1) = twoUp ds i ++ twoIn ds i 6 := by
  unfold twoUp
  rw [List.range_succ, List.flatMap_append, List.flatMap_cons, List.flatMap_nil, List.append_nil]
theorem twoIn_len {ds : List Ent} {c j : Nat} : (twoIn ds c j).length ≤ j := by
  unfold twoIn
  rw [List.length_map]
  refine Nat.le_trans (List.length_filter_le _ _) ?_
  rw [List.length_range]
  exact Nat.le_refl _
theorem twoUp_len {ds : List Ent} : ∀ {i : Nat}, (twoUp ds i).length ≤ 6 * i
  | 0 => Nat.le_refl _
  | i + 1 => by
    rw [twoUp_succ, List.length_append]
    have h1 := twoUp_len (ds := ds) (i := i)
    have h2 := twoIn_len (ds := ds) (c := i) (j := 6)
    omega
section
variable {P : Program} {w : World} {K : PySem.W.Frag} {mg : Str → Option Value} {base : Heap} {f fA fX fY C Cn Ct : Addr} {fd fdA fdX fdY : FuncData}
def spDefiner (C Cn Ct : Addr) : Sp := fun vs H Q E => ∃ (p : Addr) (ds : List Ent) (c m : Nat), vs = [.ref p, natV c, natV m] ∧ WorldAt H p C ds ∧ DsOk ds ∧ c < ds.length ∧ ds.length ≤ 12 ∧ m < 6 ∧
  (∀ a, ansL ds c m = [a] → ∀ H', Same H H' → Q (natV a) H') ∧
  (ansL ds c m = [] → ∀ d H', Same H H' → H' d = some (.xd (errF ["cls", "name"] [natV c, natV m])) → E (.ref Cn) (some d) H') ∧
  (∀ a b r, ansL ds c m = a :: b :: r → ∀ d H', Same H H' → H' d = some (.xd (errF ["cls", "name", "a", "b"] [natV c, natV m, natV a, natV b])) → E (.ref Ct) (some d) H')
def spTwo (C : Addr) : Sp := fun vs H Q _ => ∃ (p : Addr) (ds : List Ent), vs = [.ref p] ∧ WorldAt H p C ds ∧ DsOk ds ∧ ds.length ≤ 12 ∧
  ∀ t us H', Same H H' → H' t = some (.tup us) → PairsAt H' us (twoUp ds ds.length) → Q (.ref t) H'
theorem sc_two : FnScope ["world", "c", "name"] ["world"] (defScope (top 27)) := ⟨rfl, rfl, rfl, by decide +kernel, rfl, by decide +kernel, by decide +kernel⟩
theorem ok_two (F : FnP K "two_answers" 27 f fd) (B : Fr mg) (Z : Cst mg) (TC : ClsWorld K mg C) (FA : FnP K "answers_of" 25 fA fdA) (mA : mg "answers_of" = some (.ref fA)) (GA : FnOk P w K mg base CX0 5 fA fdA ["world", "c", "name"] (spAnswers C)) : FnOk P w K mg base CX0 6 f fd ["world"] (spTwo C) := by
  have bA : L2.Binds K fdA ["world", "c", "name"] [] := FA.bindsN fun _ _ _ _ _ _ us hl => match us, hl with | [_, _, _], _ => rfl
  obtain ⟨t6, z6⟩ := Z.mn
  refine F.ok sc_two (fun vs H Q E h => ?_) (fun cdv A outer s H vs Q E hr h => ?_)
  · obtain ⟨p, ds, rfl, _⟩ := h
    rfl
  · obtain ⟨p, ds, rfl, hw, ok, h12, k⟩ := h
    refine ⟨_, PSs.nox (pss_one (ps_ret (pe_callTy (T := "tuple") (r := rTupOf K) (call_tup (X := _)) (by rfl) B.tuple (by decide +kernel) (pa_cons
        (pe_lc2 (own := [("c", 1), ("name", 2)]) (vs1 := [2]) (g := gName 1) (g1 := gName 2) rfl sc_two.nd (pi_range1 (by rfl) B.range (pa_cons (pe_callB call_len_seq (by rfl) B.len PySem.boot_len (pa_cons (pe_fld (pv 0) rfl) pa_nil)) pa_nil)) (blkOk_by (N := ["world", "c", "name"]) (sc := defScope (top 27)) (by decide +kernel)) (by decide)
          (fun _ _ _ _ _ => pg_name (i := 1) sc_two.nd rfl (Or.inl rfl)) (fun _ _ _ _ _ => pts_nil)
          (fun _ _ _ _ _ => pi_range1 (by rfl) B.range (pa_cons (pe_glob (v := .int 6) (by rfl) z6 ⟨_, rfl⟩) pa_nil))
          (fun _ _ _ _ _ => pg_name (i := 2) sc_two.nd rfl (Or.inl rfl))
          (fun _ _ _ _ _ => pts_one (pt_cmp (pc_gt (pe_callB (id := "len") (r := rLenS K) (call_lenS (X := _)) (by rfl) B.len PySem.boot_len (pa_cons (pe_call GA hr (by rfl) mA FA.kp bA .nil pass0 (pa_cons (pv 0) (pa_cons (pv 1) (pa_cons (pv 2) pa_nil)))) pa_nil)) pe_int)))
          (fun _ _ _ _ _ => pe_tup (pa_cons (pv 1) (pa_cons (pv 2) pa_nil)))) pa_nil)))), ?_⟩
    have hw0 := hw
    obtain ⟨dx, ac, ab, ao, am, ae, ah, cs, bs, ms, es, hs, h1, h2, h3, _⟩ := hw
    have lcs : cs.length = ds.length := h3.len
    refine ⟨_, rfl, p, C, dx, _, _, rfl, h1, TC.cl, TC.no _ (List.mem_of_getElem? (i := 0) rfl), rfl, ac, cs, rfl, .inr (SqT.of h2), ?_⟩
    rw [lcs]
    refine ⟨_, rfl, by omega, by omega, fun D hD => ?_⟩
    have eN : (((ds.length : Nat) : Int)).toNat = ds.length := by omega
    refine lc2_out (lo := 0) (n := (((ds.length : Nat) : Int)).toNat) (fun i H' => Same H H' ∧ ∃ us, H' D = some (.lst us) ∧ PairsAt H' us (twoUp ds i)) ⟨same_new hD, [], upd_same, .nil⟩ ?_ ?_
    · rintro i H2 hi ⟨s2, us, hD2, hP⟩ Nx hNx
      rw [eN] at hi
      have ei : (0 : Int) + (i : Int) = (i : Int) := by omega
      rw [ei]
      refine ⟨rfl, _, rfl, by decide, by decide, ?_⟩
      refine lc2_in (lo := 0) (m := ((6 : Int)).toNat) (fun j H' => Same H H' ∧ ∃ us, H' D = some (.lst us) ∧ PairsAt H' us (twoUp ds i ++ twoIn ds i j)) ⟨s2, us, hD2, by rw [show twoIn ds i 0 = [] from rfl, List.append_nil]; exact hP⟩ ?_ ?_
      · rintro j H3 hj ⟨s3, us, hD3, hP⟩
        have hj : j < 6 := hj
        have ej : (0 : Int) + (j : Int) = (j : Int) := by omega
        rw [ej]
        refine ⟨rfl, _, rfl, _, rfl, _, rfl, p, ds, i, j, rfl, hw0.mono s3, ok, hi, h12, hj, fun t H4 s4 ht => ⟨t, _, rfl, .inr (SqT.of ht), _, _, rfl, rfl, ?_⟩⟩
        have st := twoIn_succ (ds := ds) (c := i) (j := j)
        have hD4 := s4 _ _ hD3
        have pl : us.length ≤ 200 := by
          have e1 := hP.len
          rw [List.length_append] at e1
          have e2 := twoUp_len (ds := ds) (i := i)
          have e3 := twoIn_len (ds := ds) (c := i) (j := j)
          omega
        refine ⟨_, rfl, ?_⟩
        by_cases c1 : 1 < (ansL ds i j).length
        · rw [if_pos (decide_eq_true c1)] at st
          refine iteT' (decide_eq_true (by rw [List.length_map]; omega)) ⟨_, rfl, _, rfl, (by show 2 ≤ sizeLine; decide), fun T hT => ⟨us, same_new hT _ _ hD4, by show _ < 2 ^ 24; omega, ?_⟩⟩
          have sT := same_new (o := .tup [natV i, natV j]) hT
          have hDT := sT _ _ hD4
          have TD : T ≠ D := Ne.symm (ne_of_none hD4 hT)
          refine ⟨same_upd ((s3.trans s4).trans sT) hD, us ++ [.ref T], upd_same, ?_⟩
          rw [st, ← List.append_assoc]
          exact ((hP.same (s4.trans sT)).keep hDT (Oth.upd (Oth.of (Same.refl _)))).app (.cons ⟨T, rfl, upB TD upd_same⟩ .nil)
        · rw [if_neg (by rw [decide_eq_true_eq]; exact c1), List.append_nil] at st
          exact iteF' (decide_eq_false (by rw [List.length_map]; omega)) ⟨s3.trans s4, us, hD4, by rw [st]; exact hP.same s4⟩
      · rintro H3 ⟨s3, us, hD3, hP⟩
        refine hNx _ ⟨s3, us, hD3, ?_⟩
        rw [twoUp_succ]
        exact hP
    · rintro H3 ⟨s3, us, hD3, hP⟩
      rw [eN] at hP
      exact tup_q (.inl hD3) fun t H4 s4 ht => k t us H4 (s3.trans s4) ht (hP.same s4)
end
end K59

set_option maxRecDepth 100000
set_option maxHeartbeats 8000000
namespace K59
open PySem PySem.Spec PyProof.Rows L2 Kw
/-- a comprehension over enumerate(xs) -/
theorem lc_enumTN {K : PySem.W.Frag} {a : Addr} {xs : List V} {g : TG} {tt : TT} {te : TE} {vs : List Nat} {σ : L2.St} {H1 : Hp} {D : Addr} {Qd : Hp → Prop} (Pv : Nat → Hp → Prop) (h0 : Pv 0 (upd H1 D (.lst []))) (hl : ∀ i H, i ≤ xs.length → Pv i H → SqT K H a xs)
    (hs : ∀ i x H T, xs[i]? = some x → Pv i H → H T = none → g (.ref T) (wipe σ vs) (upd H T (.tup [.int (i : Nat), x])) fun σ2 H2 => wipe σ2 vs = wipe σ vs ∧ tt σ2 H2 fun b H3 =>
      if b = true then te σ2 H3 fun y H4 => ∃ acc, H4 D = some (.lst acc) ∧ acc.length < sizeLine ∧ Pv (i + 1) (upd H4 D (.lst (acc ++ [y]))) else Pv (i + 1) H3) (hd : ∀ H, Pv xs.length H → Qd H) :
    ∃ W : Nat → Nat → Hp → Prop, (∃ m, W 0 m (upd H1 D (.lst []))) ∧ ∀ i m H, W i m H →
      ((Itet K a).stop i H ∧ Qd H) ∨ ((Itet K a).go i H ∧ ∃ Nx : Hp → Prop, (∀ H', Nx H' → ∃ m', m' < m ∧ W (i + 1) m' H') ∧ ∀ x H', (Itet K a).yld i H x H' → g x (wipe σ vs) H' fun σ2 H2 => wipe σ2 vs = wipe σ vs ∧ tt σ2 H2 fun b H3 =>
        if b = true then te σ2 H3 fun y H4 => ∃ acc, H4 D = some (.lst acc) ∧ acc.length < sizeLine ∧ Nx (upd H4 D (.lst (acc ++ [y]))) else Nx H3) := by
  refine ⟨fun i m H => m = xs.length - i ∧ i ≤ xs.length ∧ Pv i H, ⟨xs.length, by simp, Nat.zero_le _, h0⟩, ?_⟩
  rintro i m H ⟨rfl, hi, p⟩
  have q := hl i H hi p
  by_cases hlt : i < xs.length
  · refine .inr ⟨⟨xs, xs[i], q, by simp [hlt]⟩, Pv (i + 1), fun H' p' => ⟨xs.length - (i + 1), by omega, rfl, hlt, p'⟩, fun x H' y => ?_⟩
    obtain ⟨T, z, e1, e2, e3, e4⟩ := y
    subst e1 e3
    exact hs i z H T (e4 xs q) p e2
  · have e : i = xs.length := by omega
    subst e
    exact .inl ⟨⟨xs, q, rfl⟩, hd H p⟩

def rowL (ds : List Ent) (m : Nat) : List Nat := (List.range ds.length).filter fun c => (methsOf ds c).contains m
def condO (ds : List Ent) (a b : Nat) : Bool := decide (a < b) && !((kins (elsOf ds)).getD b []).contains a
theorem condO_iff {ds : List Ent} {a b : Nat} : condO ds a b = true ↔ a < b ∧ ((kins (elsOf ds)).getD b []).contains a = false := by
  unfold condO
  rw [Bool.and_eq_true, decide_eq_true_iff]
  cases ((kins (elsOf ds)).getD b []).contains a <;> simp
theorem rowL_up {ds : List Ent} {m : Nat} : (rowL ds m).Pairwise (· < ·) := List.Pairwise.filter _ List.pairwise_lt_range
theorem rowL_lt {ds : List Ent} {m : Nat} : ∀ x ∈ rowL ds m, x < ds.length := fun x hx => List.mem_range.mp (List.mem_filter.mp hx).1
theorem rowL_len {ds : List Ent} {m : Nat} : (rowL ds m).length ≤ ds.length := by
  unfold rowL
  refine Nat.le_trans (List.length_filter_le _ _) ?_
  rw [List.length_range]
  exact Nat.le_refl _
theorem meth_get {H : Hp} {ms : List V} {ds : List Ent} (h8 : TupsAt H ms (ds.map fun d => sortN d.2.2)) (ok : DsOk ds) {x : Nat} (hx : x < ds.length) : ∃ t, ms[x]? = some (.ref t) ∧ H t = some (.tup ((methsOf ds x).map natV)) := by
  obtain ⟨d, hd⟩ : ∃ d, ds[x]? = some d := ⟨_, List.getElem?_eq_getElem hx⟩
  obtain ⟨t, e1, e2⟩ := h8.get (i := x) (l := sortN d.2.2) (by rw [List.getElem?_map, hd]; rfl)
  obtain ⟨o1, o2, o3, o4, o5, o6, o7⟩ := ok x d hd
  refine ⟨t, e1, ?_⟩
  rw [sortN_nat o5 o6] at e2
  unfold methsOf
  rw [List.getD_eq_getElem?_getD, hd]
  exact e2
def OptP2 (H : Hp) (v : V) (o : Option (List Nat)) : Prop := (o = none ∧ v = .non) ∨ ∃ a b t, o = some [a, b] ∧ v = .ref t ∧ H t = some (.tup [natV a, natV b])
section
variable {P : Program} {w : World} {K : PySem.W.Frag} {mg : Str → Option Value} {base : Heap} {f fL fC fW fN fN2 C Cn : Addr} {fd fdL fdC fdW fdN fdN2 : FuncData}
def spOff (C : Addr) : Sp := fun vs H Q _ => ∃ (p : Addr) (ds : List Ent) (m : Nat), vs = [.ref p, natV m] ∧ WorldAt H p C ds ∧ DsOk ds ∧ ds.length ≤ 12 ∧ m < 6 ∧
  ∀ v H' o, Same H H' → Least (condO ds) (rowL ds m) o → OptP2 H' v o → Q v H'
end
end K59

set_option maxRecDepth 100000
set_option maxHeartbeats 8000000
namespace K59
open PySem PySem.Spec PyProof.Rows L2 Kw
/-- a thing of any kind as a test -/
def tTru (K : PySem.W.Frag) (ta : TE) : TT := fun σ H Q => ta σ H fun x H' => ∃ k, TruV K x H' k ∧ Q k H'
theorem pt_tru {X : Cx} {a : Expr} {ta : TE} (ha : PE X a ta) (he : ∀ whole, isTrue a X.env whole = (do let v ← whole; standAt a.pos; holding [v] (truthy v))) : PT X a (tTru X.K ta) := pt_truth ha he
theorem defL_up {ds : List Ent} (ok : DsOk ds) {c m : Nat} (hc : c < ds.length) : (defL ds c m).Pairwise (· < ·) := by
  unfold defL
  refine List.Pairwise.filter _ ?_
  have e : (kins (elsOf ds)).getD c [] = kinOf (elsOf ds) c := kins_getD (by unfold elsOf; rw [elders_len, List.length_map]; exact hc)
  rw [e]
  exact (kin_up (ds.map (·.1)) c (by rw [List.length_map]; exact hc)).1
section
variable {P : Program} {w : World} {K : PySem.W.Frag} {mg : Str → Option Value} {base : Heap} {f fD fL : Addr} {fd fdD fdL : FuncData}
def spTops : Sp := fun vs H Q _ => ∃ (a r : Addr) (us : List V) (els : List (List Nat)) (xs : List Nat), vs = [.ref a, .ref r] ∧ H a = some (.lst us) ∧ ListsAt H us els ∧ H r = some (.lst (xs.map natV)) ∧ xs.Pairwise (· < ·) ∧ (∀ x ∈ xs, x < els.length) ∧ xs.length ≤ 12 ∧
  ∀ D H', Same H H' → H' D = some (.lst ((topsL els xs).map natV)) → Q (.ref D) H'
theorem sc_tops : FnScope ["_law_elders_here", "_law_lot", "_law_c", "_law_one"] ["_law_elders_here", "_law_lot"] (defScope (top 43)) := ⟨rfl, rfl, rfl, by decide +kernel, rfl, by decide +kernel, by decide +kernel⟩
theorem ok_tops (F : FnP K "_law_tops" 43 f fd) (B : Fr mg) : FnOk P w K mg base CX0 1 f fd ["_law_elders_here", "_law_lot"] spTops := by
  refine F.ok sc_tops (fun vs H Q E h => ?_) (fun cdv A outer s H vs Q E hr h => ?_)
  · obtain ⟨a, r, us, els, xs, rfl, _⟩ := h
    rfl
  · obtain ⟨a, r, us, els, xs, rfl, hA, hL, hR, up, hx, x12, k⟩ := h
    refine ⟨_, PSs.nox (pss_one (ps_ret (pe_lc (own := [("_law_c", 2)]) (g := gName 2) (tt := tNot (tTru K (tLc (iList K (tVar 1)) (gName 3) (tTest (tOp (rIn K false) (tVar 2) (tOp (rIxL K) (tVar 0) (tVar 3)))) (tVar 3) (List.map (fun x => x.snd) [("_law_one", 3)])))) (te := tVar 2) rfl sc_tops.nd
          (pi_list (pe_callB (cr_sortedSet rfl) (by rfl) B.sorted (by decide +kernel) (pa_cons (pe_callTy (T := "set") (r := rSetSI K w) (call_setSI (X := _) rfl) (by rfl) B.set (by decide +kernel) (pa_cons (pv 1) pa_nil)) pa_nil))) (blkOk_by (N := ["_law_elders_here", "_law_lot", "_law_c", "_law_one"]) (sc := defScope (top 43)) (by decide +kernel))
          (fun _ _ _ _ _ => pg_name (i := 2) sc_tops.nd rfl (Or.inr rfl))
          (fun _ _ _ _ _ => ?tt)
          (fun _ _ _ _ _ => pv 2)))), ?_⟩
    case tt => exact pts_one (pt_not (pt_tru (pe_lc (own := [("_law_one", 3)]) (g := gName 3) (te := tVar 3) rfl sc_tops.nd (pi_list (pv 1)) (blkOk_by (by rfl)) (fun _ _ _ _ _ => pg_name (i := 3) sc_tops.nd rfl (Or.inl rfl)) (fun _ _ _ _ _ => pts_one (pt_cmpR (r := rIn K false) op_in_seq (pv 2) (pe_ix (r := rIxL K) ix_list (pv 0) (pv 3) (fun _ _ => rfl)) (by rfl))) (fun _ _ _ _ _ => pv 3)) (by intro _; rfl)))
    refine ⟨_, rfl, r, xs.map (fun (n : Nat) => (n : Int)), rfl, .inl ?_, ?_, fun S c hS hc => ?_⟩
    · rw [List.map_map]
      exact SqL.of hR
    · rw [List.length_map]
      omega
    rw [List.length_map] at hc
    have sS := same_new (o := SetO w S (fun j => decide (j ∈ xs.map (fun (n : Nat) => (n : Int)))) c) hS
    refine ⟨S, _, c, rfl, upd_same, by omega, fun ns L asc hns hlen hL2 => ?_⟩
    have ens : ns.map V.int = xs.map natV := asc_one asc up fun k => by
      rw [hns k, decide_eq_true_iff, List.mem_map]
      exact ⟨fun ⟨n, hn, e⟩ => ⟨n, hn, e.symm⟩, fun ⟨n, hn, e⟩ => ⟨n, hn, e.symm⟩⟩
    have sL := sS.trans (same_new (o := .lst (ns.map V.int)) hL2)
    rw [ens] at sL ⊢
    have hLL : upd (upd H S (SetO w S (fun j => decide (j ∈ xs.map (fun (n : Nat) => (n : Int)))) c)) L (.lst (xs.map natV)) L = some (.lst (xs.map natV)) := upd_same
    generalize hG : upd (upd H S (SetO w S (fun j => decide (j ∈ xs.map (fun (n : Nat) => (n : Int)))) c)) L (.lst (xs.map natV)) = G at sL hLL ⊢
    refine ⟨L, rfl, ⟨_, SqL.of hLL⟩, fun D hD => lc_list (K := K) (a := L) (xs := xs.map natV) (fun j H' => Same G H' ∧ H' D = some (.lst (((xs.take j).filter fun k => !(xs.any fun h => (els.getD h []).contains k)).map natV))) ⟨same_new hD, upd_same⟩ (fun j H' _ z => SqL.of (z.1 _ _ hLL)) ?_ ?_⟩
    · rintro j v H2 hj ⟨s2, hD2⟩
      rw [List.getElem?_map] at hj
      obtain ⟨x, hxx, rfl⟩ := Option.map_eq_some_iff.mp hj
      have s02 := sL.trans s2
      refine ⟨rfl, _, rfl, r, rfl, ⟨_, SqL.of (s02 _ _ hR)⟩, fun D2 hD2' => lc_list (K := K) (a := r) (xs := xs.map natV) (fun j H' => Same H2 H' ∧ H' D2 = some (.lst (((xs.take j).filter fun h => (els.getD h []).contains x).map natV))) ⟨same_new hD2', upd_same⟩ (fun j H' _ z => SqL.of (z.1 _ _ (s02 _ _ hR))) ?_ ?_⟩
      · rintro m v H3 hm ⟨s3, hD3⟩
        rw [List.getElem?_map] at hm
        obtain ⟨y, hy, rfl⟩ := Option.map_eq_some_iff.mp hm
        have s03 := s02.trans s3
        have yl := hx y (List.mem_of_getElem? hy)
        obtain ⟨krow, hk⟩ : ∃ krow, els[y]? = some krow := ⟨_, List.getElem?_eq_getElem yl⟩
        have hgd : els.getD y [] = krow := by
          rw [List.getD_eq_getElem?_getD, hk]
          rfl
        obtain ⟨kt, ekt, hkt⟩ := hL.get hk
        refine ⟨rfl, _, rfl, _, rfl, _, rfl, a, us, (y : Int), _, rfl, rfl, SqL.of (s03 _ _ hA), atI_nat ekt, kt, _, rfl, .inl (SqL.of (s03 _ _ hkt)), rfl, flat_nats krow, _, rfl, ?_⟩
        have ein : inV (natV x) (krow.map natV) = krow.contains x := inV_nat _ _
        show (if inV (natV x) (krow.map natV) = true then _ else _)
        rw [ein]
        have st := take_filterN (p := fun h => (els.getD h []).contains x) hy
        simp only [hgd] at st
        cases hb : krow.contains x with
        | true =>
          rw [hb, if_pos rfl] at st
          refine iteT' rfl ⟨_, rfl, _, hD3, ?_, same_upd s3 hD2', by rw [st, List.map_append, upd_same]; rfl⟩
          rw [List.length_map]
          refine Nat.lt_of_le_of_lt (List.length_filter_le _ _) ?_
          rw [List.length_take]
          show _ < 2 ^ 24
          omega
        | false =>
          rw [hb, if_neg (by decide), List.append_nil] at st
          exact iteF' rfl ⟨s3, by rw [st]; exact hD3⟩
      · rintro H3 ⟨s3, hD3⟩
        rw [List.length_map, List.take_length] at hD3
        refine ⟨_, .inl ⟨_, SqL.of hD3, rfl⟩, ?_⟩
        have hDD := s3 _ _ hD2
        have e : (!(!((xs.filter fun h => (els.getD h []).contains x).map natV).isEmpty)) = !(xs.any fun h => (els.getD h []).contains x) := by
          congr 1
          rw [Bool.eq_iff_iff, List.any_eq_true]
          constructor
          · intro z
            cases q : xs.filter fun h => (els.getD h []).contains x with
            | nil =>
              rw [q] at z
              cases z
            | cons y r =>
              have : y ∈ xs.filter fun h => (els.getD h []).contains x := by rw [q]; exact List.mem_cons_self
              obtain ⟨h1, h2⟩ := List.mem_filter.mp this
              exact ⟨y, h1, h2⟩
          · rintro ⟨y, h1, h2⟩
            have : y ∈ xs.filter fun h => (els.getD h []).contains x := List.mem_filter.mpr ⟨h1, h2⟩
            cases q : xs.filter fun h => (els.getD h []).contains x with
            | nil =>
              rw [q] at this
              cases this
            | cons y r => rfl
        show (if (!(!((xs.filter fun h => (els.getD h []).contains x).map natV).isEmpty)) = true then _ else _)
        rw [e]
        have st := take_filterN (p := fun k => !(xs.any fun h => (els.getD h []).contains k)) hxx
        cases hb : xs.any fun h => (els.getD h []).contains x with
        | false =>
          rw [hb, if_pos (show (!false) = true from rfl)] at st
          refine iteT' rfl ⟨_, rfl, _, hDD, ?_, same_upd (s2.trans s3) hD, by rw [st, List.map_append, upd_same]; rfl⟩
          rw [List.length_map]
          refine Nat.lt_of_le_of_lt (List.length_filter_le _ _) ?_
          rw [List.length_take]
          show _ < 2 ^ 24
          omega
        | true =>
          rw [hb, if_neg (show ¬ (!true) = true from fun z => by cases z), List.append_nil] at st
          exact iteF' rfl ⟨s2.trans s3, by rw [st]; exact hDD⟩
    · rintro H2 ⟨s2, hD2⟩
      rw [List.length_map, List.take_length] at hD2
      exact k D H2 (sL.trans s2) hD2
def spLDef : Sp := fun vs H Q _ => ∃ (l a : Addr) (us es : List V) (ds : List Ent) (c m : Nat), vs = [.ref l, .ref a, natV c, natV m] ∧ H l = some (.lst us) ∧ RwN l H us ds ∧ DsOk ds ∧ ds.length ≤ 12 ∧ c < ds.length ∧ H a = some (.lst es) ∧ ListsAt H es (elsOf ds) ∧
  ∀ D H', Same H H' → H' D = some (.lst ((defL ds c m).map natV)) → Q (.ref D) H'
def spLAns : Sp := fun vs H Q _ => ∃ (l a : Addr) (us es : List V) (ds : List Ent) (c m : Nat), vs = [.ref l, .ref a, natV c, natV m] ∧ H l = some (.lst us) ∧ RwN l H us ds ∧ DsOk ds ∧ ds.length ≤ 12 ∧ c < ds.length ∧ H a = some (.lst es) ∧ ListsAt H es (elsOf ds) ∧
  ∀ D H', Same H H' → H' D = some (.lst ((ansL ds c m).map natV)) → Q (.ref D) H'
theorem ListsAt.sameN {H H' : Hp} (s : Same H H') : ∀ {vs : List V} {ls : List (List Nat)}, ListsAt H vs ls → ListsAt H' vs ls
  | [], [], _ => .nil
  | _ :: _, _ :: _, .cons ⟨t, e, h⟩ r => .cons ⟨t, e, s _ _ h⟩ (ListsAt.sameN s r)
end
end K59

set_option maxRecDepth 100000
set_option maxHeartbeats 8000000
namespace K59
open PySem PySem.Spec PyProof.Rows L2 Kw
section
variable {P : Program} {w : World} {K : PySem.W.Frag} {mg : Str → Option Value} {base : Heap} {f : Addr} {fd : FuncData}
def spLOff : Sp := fun vs H Q _ => ∃ (l a : Addr) (us es : List V) (ds : List Ent) (m : Nat), vs = [.ref l, .ref a, natV m] ∧ H l = some (.lst us) ∧ RwN l H us ds ∧ DsOk ds ∧ ds.length ≤ 12 ∧ H a = some (.lst es) ∧ ListsAt H es (elsOf ds) ∧
  ∀ v H' o, Same H H' → Least (condO ds) (rowL ds m) o → OptP2 H' v o → Q v H'
end
end K59

set_option maxRecDepth 100000
set_option maxHeartbeats 8000000
namespace K59
open PySem PySem.Spec PyProof.Rows L2 Kw
theorem DsOk.meths {ds : List Ent} (h : DsOk ds) {i : Nat} {d : Ent} (hd : ds[i]? = some d) {j : Nat} (hj : j = i) {ms : List Nat} (h1 : ms.Pairwise (· < ·)) (h2 : ∀ m ∈ ms, m < 6) (h3 : ms.length ≤ 3) : EOk j (d.1, d.2.1, ms) := by
  obtain ⟨o1, o2, o3, o4, o5, o6, o7⟩ := h i d hd
  rw [hj]
  exact ⟨o1, o2, o3, o4, h1, h2, h3⟩
theorem RwN.getN {R : Addr} {H : Hp} : ∀ {vs : List V} {ls : List Ent} {i : Nat} {d : Ent}, RwN R H vs ls → ls[i]? = some d → ∃ t b m, vs[i]? = some (.ref t) ∧ t ≠ R ∧ H t = some (.tup [.ref b, natV d.2.1, .ref m]) ∧ b ≠ R ∧ H b = some (.lst (d.1.map natV)) ∧ m ≠ R ∧ H m = some (.lst (d.2.2.map natV))
  | [], [], _, _, _, h => by simp at h
  | _ :: _, _ :: _, 0, _, .cons ⟨t, b, m, e1, n1, h1, n2, h2, n3, h3⟩ _, e => by
    obtain rfl := Option.some.inj e
    exact ⟨t, b, m, by rw [e1]; rfl, n1, h1, n2, h2, n3, h3⟩
  | _ :: _, _ :: _, i + 1, _, .cons _ r, e => RwN.getN (i := i) r e
theorem tFor_if {t : TT} {ta tb : TE} {g : TG} {body : TS} {D : Ends} {σ : L2.St} {H : Hp} (Q1 : V → Hp → Prop) (h1 : ∀ Q' : VK, (∀ v H, Q1 v H → Q' v H) → tIf t ta tb σ H Q') (k : ∀ v H', Q1 v H' → tFor (iRng1 (tCons (tC v) tNil)) g body D σ H') : tFor (iRng1 (tCons (tIf t ta tb) tNil)) g body D σ H := h1 _ fun v H' z => k v H' z
theorem gName_seq {i : Nat} {v : V} {σ : L2.St} {H : Hp} {t u : TS} {D : Ends} (h : t { D with nx := u D } (σ.set i (some v)) H) : gName i v σ H (tSeq t u D) := h
section
variable {P : Program} {w : World} {K : PySem.W.Frag} {mg : Str → Option Value} {base : Heap} {f fT fM : Addr} {fd fdT fdM : FuncData}
def spFew : Sp := fun vs H Q _ => ∃ (p q l : Addr) (us : List V) (ds : List Ent), vs = [.ref p, .ref l] ∧ HandAt H p q ∧ l ≠ p ∧ H l = some (.lst us) ∧ RwN l H us ds ∧ DsOk ds ∧ ds.length ≤ 12 ∧
  ∀ l' H' us' (ds' : List Ent), Oth p H H' → HandAt H' p q → l' ≠ p → H' l' = some (.lst us') → RwN l' H' us' ds' → ds'.length = ds.length → DsOk ds' → Q (.ref l') H'
theorem sc_few : FnScope ["_law_hand_here", "_law_rows", "_law_few_here", "_law_found", "_law_bases_here", "_law_fields", "_law_methods_here", "_law_names", "_law_step"] ["_law_hand_here", "_law_rows"] (defScope (top 46)) := ⟨rfl, rfl, rfl, by decide +kernel, rfl, by decide +kernel, by decide +kernel⟩
theorem ok_few (F : FnP K "_law_few" 46 f fd) (B : Fr mg) (FT : FnP K "_law_take" 37 fT fdT) (mT : mg "_law_take" = some (.ref fT)) (FM : FnP K "_law_mixed" 36 fM fdM) (mM : mg "_law_mixed" = some (.ref fM)) :
    FnOk P w K mg base CX0 3 f fd ["_law_hand_here", "_law_rows"] spFew := by
  have GT : FnOk P w K mg base CX0 2 fT fdT ["_law_hand_here", "_law_many"] spTake := ok_take FT FM mM B.int B.len
  have bT : L2.Binds K fdT ["_law_hand_here", "_law_many"] [] := FT.bindsN fun _ _ _ _ _ _ us hl => match us, hl with | [_, _], _ => rfl
  refine F.ok sc_few (fun vs H Q E h => ?_) (fun cdv A outer s H vs Q E hr h => ?_)
  · obtain ⟨p, q, l, us, ds, rfl, _⟩ := h
    rfl
  · obtain ⟨p, q, l, us, ds, rfl, hh, lp, hl, hRw, ok, h12, k⟩ := h
    refine ⟨_, PSs.nox (pss_cons (ps_if (pt_cmpR op_eq (pe_call GT hr (by rfl) mT FT.kp bT .nil pass0 (pa_cons (pv 0) (pa_cons pe_int pa_nil))) pe_int (nomark _)) (pss_one (ps_ret (pv 1))) pss_nil)
      (pss_cons (ps_set (i := 2) sc_few.nd rfl (Or.inl rfl) (pe_ix ix_tup (pe_tup (pa_cons pe_int (pa_cons pe_int (pa_cons pe_int (pa_cons pe_int pa_nil))))) (pe_call GT hr (by rfl) mT FT.kp bT .nil pass0 (pa_cons (pv 0) (pa_cons pe_int pa_nil))) (fun _ _ => rfl)))
      (pss_cons (ps_set (i := 3) sc_few.nd rfl (Or.inl rfl) (pe_lst pa_nil))
      (pss_cons (ps_for PassesOwn.never rfl (pi_list (pv 1)) (pg_tup (by rfl) (pgs_cons (pg_name (i := 4) sc_few.nd rfl (Or.inl rfl)) (pgs_cons (pg_name (i := 5) sc_few.nd rfl (Or.inl rfl)) (pgs_cons (pg_name (i := 6) sc_few.nd rfl (Or.inl rfl)) pgs_nil))))
        (pss_cons (ps_set (i := 7) sc_few.nd rfl (Or.inl rfl) (pe_lst pa_nil))
        (pss_cons (ps_for PassesOwn.never rfl (pi_range1 (by rfl) B.range (pa_cons (pe_ifExp (pt_tru (pv 4) (by intro _; rfl))
              (pe_ix ix_tup (pe_tup (pa_cons pe_int (pa_cons pe_int (pa_cons pe_int (pa_cons pe_int (pa_cons pe_int (pa_cons pe_int pa_nil))))))) (pe_call GT hr (by rfl) mT FT.kp bT .nil pass0 (pa_cons (pv 0) (pa_cons pe_int pa_nil))) (fun _ _ => rfl))
              (pe_op op_add pe_int (pe_call GT hr (by rfl) mT FT.kp bT .nil pass0 (pa_cons (pv 0) (pa_cons pe_int pa_nil))))) pa_nil)) (pg_name (i := 8) sc_few.nd rfl (Or.inl rfl))
          (pss_one (ps_expr (pe_bm PySem.F.plainAttrs_list PySem.F.slot_list_append PySem.F.type_list_append mt_append (pv 7) (pa_cons (pe_call GT hr (by rfl) mT FT.kp bT .nil pass0 (pa_cons (pv 0) (pa_cons (pv 2) pa_nil))) pa_nil)))))
        (pss_one (ps_expr (pe_bm PySem.F.plainAttrs_list PySem.F.slot_list_append PySem.F.type_list_append mt_append (pv 3) (pa_cons (pe_tup (pa_cons (pv 4) (pa_cons (pv 5)
            (pa_cons (pe_callB (cr_sortedSet rfl) (by rfl) B.sorted (by decide +kernel) (pa_cons (pe_callTy (T := "set") (r := rSetSI K w) (call_setSI (X := _) rfl) (by rfl) B.set (by decide +kernel) (pa_cons (pv 7) pa_nil)) pa_nil)) pa_nil)))) pa_nil)))))))
      (pss_one (ps_ret (pv 3))))))), ?_⟩
    refine ⟨_, rfl, p, q, 3, rfl, by decide, by decide, hh, fun r0 H1 r00 r01 h1 e1 => ⟨rfl, _, rfl, ?_⟩⟩
    have O1 : Oth p H H1 := Oth.take e1
    refine ite2 (fun _ => ?_) (fun _ => ?_)
    · exact ⟨_, rfl, k l H1 us ds O1 h1 lp (O1 _ _ lp hl) (hRw.keep (KeepX.oth O1 hh)) rfl ok⟩
    have hRw1 := hRw.keep (KeepX.oth O1 hh)
    have hl1 := O1 _ _ lp hl
    refine ⟨by (show 4 ≤ sizeLine); decide, fun t0 ht0 => ?_⟩
    obtain ⟨t0p, t0q⟩ := h1.ne ht0
    have st0 := same_new (o := .tup (([1, 1, 2, 3] : List Int).map V.int)) ht0
    refine ⟨_, rfl, p, q, 4, rfl, by decide, by decide, h1.upd t0p t0q, fun r H2 r0 r1 h2 e2 => ?_⟩
    obtain ⟨v0, hv0, hm0⟩ := tab_at (tab := [1, 1, 2, 3]) r0 r1
    have hv03 : 1 ≤ v0 ∧ v0 ≤ 3 := (by decide : ∀ v ∈ ([1, 1, 2, 3] : List Int), 1 ≤ v ∧ v ≤ 3) v0 hm0
    have T2 : H2 t0 = some (.tup (([1, 1, 2, 3] : List Int).map V.int)) := by
      rw [e2 t0 t0p]
      exact upd_same
    have O12 : Oth p H1 H2 := (Oth.of st0).trans (Oth.take e2)
    have O2 := O1.trans O12
    have hRw2 := hRw1.keep (KeepX.oth O12 h1)
    have hl2 := O12 _ _ lp hl1
    refine ⟨t0, _, r, _, rfl, rfl, SqT.of T2, hv0, by decide, fun D hD => ?_⟩
    obtain ⟨Dp, Dq⟩ := h2.ne hD
    have HD : H D = none := oth_free O2 Dp hD
    have sD := same_new (o := .lst []) hD
    have lD : l ≠ D := fun z => by
      rw [z, hD] at hl2
      cases hl2
    have hus := hRw.len
    refine ⟨_, rfl, l, rfl, ⟨_, SqL.of (sD _ _ hl2)⟩, for_list (K := K) (a := l) (xs := us) (fun i σ H' => ∃ (x4 x5 x6 x7 x8 : Option V), σ = [some (.ref p), some (.ref l), some (.int v0), some (.ref D), x4, x5, x6, x7, x8] ∧
        Oth p H H' ∧ HandAt H' p q ∧ H' l = some (.lst us) ∧ RwN D H' us ds ∧ ∃ vs ds', H' D = some (.lst vs) ∧ RwN D H' vs ds' ∧ ds'.length = i ∧ DsOk ds')
      ⟨none, none, none, none, none, rfl, O2.updN HD, h2.upd Dp Dq, sD _ _ hl2, (hRw2.new hD).keep KeepX.upd, [], [], upd_same, .nil, rfl, fun i d e => by simp at e⟩ (fun i σ H' _ ⟨_, _, _, _, _, _, _, _, h, _⟩ => SqL.of h) ?_ ?_⟩
    · rintro i y σ H3 hi ⟨x4, x5, x6, x7, x8, rfl, O3, h3, hl3, hRw3, vs, ds', D3, hR3, hn3, ok3⟩
      have hil : i < ds.length := by
        rw [← hus]
        exact (List.getElem?_eq_some_iff.mp hi).1
      obtain ⟨d, hd⟩ : ∃ d, ds[i]? = some d := ⟨_, List.getElem?_eq_getElem hil⟩
      obtain ⟨rt, rb, rm, er, n1, hr1, n2', hr2, n3, hr3⟩ := hRw3.getN hd
      obtain rfl : V.ref rt = y := Option.some.inj (er.symm.trans hi)
      refine ⟨rt, _, rfl, SqT.of hr1, rfl, _, _, rfl, _, _, rfl, _, _, rfl, rfl, ?_⟩
      refine ⟨by decide, fun M hM => ?_⟩
      obtain ⟨Mp, Mq⟩ := h3.ne hM
      have HM : H M = none := oth_free O3 Mp hM
      have sM := same_new (o := .lst []) hM
      have MD : M ≠ D := fun z => by
        rw [z, D3] at hM
        cases hM
      have Ml : M ≠ l := fun z => by
        rw [z, hl3] at hM
        cases hM
      have inv0 := h3.upd (o := .lst []) Mp Mq
      have OM := O3.updN HM (o := .lst [])
      have rbM := sM _ _ hr2
      dsimp only [gName, tSeq]
      refine tFor_if (fun v H4 => ∃ n : Nat, v = .int (n : Int) ∧ n ≤ 2 ∧ Oth p H3 H4 ∧ H4 M = some (.lst []) ∧ HandAt H4 p q) (fun Q' kq => ?_) ?_
      · refine ⟨_, rfl, _, .inl ⟨_, SqL.of rbM, rfl⟩, ite2 (fun _ => ?_) (fun _ => ?_)⟩
        · refine ⟨by (show 6 ≤ sizeLine); decide, fun t ht => ?_⟩
          obtain ⟨tp, tq⟩ := inv0.ne ht
          have tM : t ≠ M := fun z => by
            rw [z, upd_same] at ht
            cases ht
          refine ⟨_, rfl, p, q, 6, rfl, by decide, by decide, inv0.upd tp tq, fun r H4 r0 r1 h4 e4 => ?_⟩
          obtain ⟨v, hv, hm⟩ := tab_at (tab := [0, 1, 1, 0, 1, 2]) r0 r1
          have hv3 : 0 ≤ v ∧ v ≤ 2 := (by decide : ∀ v ∈ ([0, 1, 1, 0, 1, 2] : List Int), 0 ≤ v ∧ v ≤ 2) v hm
          have T4 : H4 t = some (.tup (([0, 1, 1, 0, 1, 2] : List Int).map V.int)) := by
            rw [e4 t tp]
            exact upd_same
          refine ⟨t, _, r, _, rfl, rfl, SqT.of T4, hv, kq _ _ ⟨v.toNat, ?_, by omega, ?_, ?_, h4⟩⟩
          · congr 1
            omega
          · exact ((Oth.of sM).trans (Oth.of (same_new ht))).trans (Oth.take e4)
          · rw [e4 M Mp]
            exact upB tM.symm upd_same
        · refine ⟨_, rfl, p, q, 2, rfl, by decide, by decide, inv0, fun r H4 r0 r1 h4 e4 => ⟨_, _, rfl, rfl, kq _ _ ⟨(1 + r).toNat, ?_, by omega, ?_, ?_, h4⟩⟩⟩
          · exact congrArg V.int (by omega)
          · exact (Oth.of sM).trans (Oth.take e4)
          · rw [e4 M Mp]
            exact upd_same
      · rintro v H4 ⟨n, rfl, n2, O4, M4, h4⟩
        refine ⟨(n : Int), rfl, by omega, by omega, for_range (n := (n : Int).toNat) (fun j σ H' => ∃ (ns : List Nat) (x8 : Option V), σ = [some (.ref p), some (.ref l), some (.int v0), some (.ref D), some (.ref rb), some (natV d.2.1), some (.ref rm), some (.ref M), x8] ∧
            Oth p H3 H' ∧ HandAt H' p q ∧ H' M = some (.lst (ns.map natV)) ∧ (∀ m ∈ ns, m < 6) ∧ ns.length = j)
          ⟨[], _, rfl, O4, h4, M4, fun m hm => (by cases hm), rfl⟩ ?_ ?_⟩
        · rintro j σ H5 hj ⟨ns, x8, rfl, O5, h5, M5, hb, hl5⟩
          refine ⟨_, rfl, .inl ⟨rfl, _, SqL.of M5⟩, _, rfl, _, rfl, p, q, v0, rfl, by omega, by omega, h5, fun r H6 r0 r1 h6 e6 => ?_⟩
          obtain ⟨b, rfl⟩ : ∃ b : Nat, r = (b : Int) := ⟨r.toNat, by omega⟩
          have M6 : H6 M = some (.lst (ns.map natV)) := by
            rw [e6 M Mp]
            exact M5
          refine ⟨M, _, _, rfl, rfl, M6, ?_, ns ++ [b], _, rfl, (O5.trans (Oth.take e6)).updN hM, h6.upd Mp Mq, ?_, ?_, ?_⟩
          · rw [List.length_map]
            show _ < 2 ^ 24
            omega
          · rw [upd_same, List.map_append]
            rfl
          · intro a ha
            rcases List.mem_append.mp ha with ha | ha
            · exact hb a ha
            · rw [List.mem_singleton.mp ha]
              omega
          · rw [List.length_append, hl5]
            rfl
        · rintro σ H5 ⟨ns, x8, rfl, O5, h5, M5, hb, hl5⟩
          have D5 := O5 _ _ Dp D3
          have l5 := O5 _ _ lp hl3
          refine ⟨_, rfl, .inl ⟨rfl, _, SqL.of D5⟩, _, rfl, _, rfl, _, rfl, M, ns.map (fun (n : Nat) => (n : Int)), rfl, .inl ?_, ?_, fun S c hS hc => ?_⟩
          · rw [List.map_map]
            exact SqL.of M5
          · rw [List.length_map]
            omega
          rw [List.length_map] at hc
          have sS := same_new (o := SetO w S (fun j => decide (j ∈ ns.map (fun (n : Nat) => (n : Int)))) c) hS
          refine ⟨S, _, c, rfl, upd_same, by omega, fun ks L asc hns hlen hL => ?_⟩
          have sL := same_new (o := .lst (ks.map V.int)) hL
          have ens : ks.map V.int = (sortN ns).map natV := asc_one asc (List.Pairwise.filter _ List.pairwise_lt_range) fun k => by
            rw [hns k, decide_eq_true_iff, List.mem_map]
            constructor
            · rintro ⟨n, hn, e⟩
              exact ⟨n, List.mem_filter.mpr ⟨List.mem_range.mpr (hb n hn), by simpa using hn⟩, e.symm⟩
            · rintro ⟨n, hn, e⟩
              exact ⟨n, by simpa using (List.mem_filter.mp hn).2, e.symm⟩
          have nl : (sortN ns).length = c := by
            have z := congrArg List.length ens
            rw [List.length_map, List.length_map] at z
            omega
          refine ⟨by (show 3 ≤ sizeLine); decide, fun u hu => ?_⟩
          have su := same_new (o := .tup [.ref rb, natV d.2.1, .ref L]) hu
          have s5u := (sS.trans sL).trans su
          have LD : L ≠ D := fun z => by
            have := sS _ _ D5
            rw [z, this] at hL
            cases hL
          have uD : u ≠ D := fun z => by
            have := sL _ _ (sS _ _ D5)
            rw [z, this] at hu
            cases hu
          have kb : KeepX D H3 H5 := KeepX.oth O5 h3
          have hone : RwN D (upd (upd (upd H5 S (SetO w S (fun j => decide (j ∈ ns.map (fun (n : Nat) => (n : Int)))) c)) L (.lst (ks.map V.int))) u (.tup [.ref rb, natV d.2.1, .ref L])) [.ref u] [((d.1, d.2.1, sortN ns) : Ent)] :=
            .cons ⟨u, rb, L, rfl, uD, upd_same, n2', s5u _ _ (kb _ _ n2' hr2 (ints_o _)), LD, (su L _ upd_same).trans (by rw [ens])⟩ .nil
          refine ⟨D, vs, _, rfl, rfl, s5u _ _ D5, ?_, _, _, _, _, _, rfl, (O3.trans (O5.trans (Oth.of s5u))).updN HD, (h5.same s5u).upd Dp Dq, upB lD (s5u _ _ l5), ((hRw3.keep kb).keep (KeepX.of s5u)).keep KeepX.upd, vs ++ [.ref u], ds' ++ [(d.1, d.2.1, sortN ns)], upd_same, ?_, ?_, ?_⟩
          · have := hR3.len
            show _ < 2 ^ 24
            omega
          · refine (((hR3.keep kb).keep (KeepX.of s5u)).app hone).keep KeepX.upd
          · rw [List.length_append, hn3]
            rfl
          · exact ok3.app (ok.meths hd hn3 (List.Pairwise.filter _ List.pairwise_lt_range) (fun m hm => List.mem_range.mp (List.mem_filter.mp hm).1) (by omega))
    · rintro σ H3 ⟨x4, x5, x6, x7, x8, rfl, O3, h3, hl3, hRw3, vs, ds', D3, hR3, hn3, ok3⟩
      exact ⟨_, rfl, k D H3 vs ds' O3 h3 Dp D3 hR3 (by rw [hn3, hus]) ok3⟩
end
end K59

set_option maxRecDepth 100000
set_option maxHeartbeats 8000000
/-! several clauses `except X as n`: the suite of a clause has the exception under its name, which goes behind it -/
namespace L2
open PySem PySem.Spec PyProof.Rows
/-- what a suite under the name of slot i promises at its ends: the slot is unset -/
def endsAs (i : Nat) (D : Ends) : Ends := { nx := fun σ' H' => D.nx (σ'.set i none) H', rt := D.rt, bk := fun σ' H' => D.bk (σ'.set i none) H', ct := fun σ' H' => D.ct (σ'.set i none) H' }
def wManyAs (K : PySem.W.Frag) (i : Nat) (Wout : WX) (D : Ends) : List (Value × (Addr → Value → Option Addr → TS)) → WX
  | [] => Wout
  | (c, ts) :: r => fun cls d σ H => ∃ b, PySem.W.exmOne K cls c = some b ∧ (b = true → ∀ a, H a = none → ts a cls d (endsAs i D) (σ.set i (some (.ref a))) H) ∧ (b = false → wManyAs K i Wout D r cls d σ H)
inductive HdsAs (X : Cx) (n : Str) : List ExceptHandler → List (Value × (Addr → Value → Option Addr → TS)) → Prop
  | nil : HdsAs X n [] []
  | cons {x : Str} {c : Value} {ts : Addr → Value → Option Addr → TS} {b₀ : Stmt} {suite : List Stmt} {np pos' : Pos} {hds : List ExceptHandler} {l : List (Value × (Addr → Value → Option Addr → TS))} (hc : Names X x c)
      (hsu : ∀ (a : Addr) (oe : Obj) (cls : Value) (d : Option Addr) (pn : List (Addr × Obj)), Zc cls d oe → (∃ vs, oe.data = .fields vs) → PSs (X.suite a ((a, oe) :: pn)) (b₀ :: suite) (ts a cls d)) (r : HdsAs X n hds l) :
      HdsAs X n (.ExceptHandler (some (.Name x np)) (some n) (b₀ :: suite) pos' :: hds) ((c, ts) :: l)
section
variable {X : Cx} {n : Str} {i : Nat} {body : List Stmt} {h₀ : ExceptHandler} {hds : List ExceptHandler} {l : List (Value × (Addr → Value → Option Addr → TS))} {pos : Pos} {tb : WX → TS} {Wout : WX}
theorem ps_try_manyAs (hs : X.stack = X.env :: X.outer) (hf : X.env.frame = some X.env.locals) (hN : X.N.Nodup) (hi : X.N[i]? = some n) (hln : X.env.kindOf n = some .local) (tk : Takes X Wout)
    (hb : ∀ (W : WX) (pn : List (Addr × Obj)) (xe : Value → Shared → Prop), Takes (X.tr pn xe) W → PassesOwn (model X.prog X.w) X.A X.env xe → PSs (X.tr pn xe) body (tb W))
    (hh : HdsAs X n (h₀ :: hds) l) : PS X (.Try body (h₀ :: hds) [] [] pos) (fun D σ H => tb (wManyAs X.K i Wout D l) D σ H) := by
  refine ⟨fun pins s σ H D I h => ?_⟩
  have ok := I.ok
  have hfr : X.A.frames = some (X.env :: X.outer) := by rw [ok.frames, hs]
  have hloc : Loc X.env.scope n := .inl hln
  refine wpAny_Try_except ?_
  refine wpAny_mono ((hb (wManyAs X.K i Wout D l) (X.pn ++ pins) (fun e s₁ => wpAny (model X.prog X.w) X.A (noteFrame e X.env) (fun _ s₂ => wpAny (model X.prog X.w) X.A (setFlight e none) (fun _ s₃ =>
    wpAny (model X.prog X.w) X.A (handleBy e X.env (h₀ :: hds)) (SP X pins D) X.xe s₃) X.xe s₂) X.xe s₁) (fun u s' xx => ?_) PassesOwn.looking).run [] s σ H D (I.toTry _) h) (fun f s1 hsp => ?_) (fun e s1 he => he)
  · obtain ⟨a, B, sI, pins', σ', H', cls, d, rfl, J', nb, up, sky, na, os, ag, w⟩ := xx
    have J : Inv X pins σ' H' sI := J'.ofTry ok
    have sky' : Sky B (X.env :: X.outer) a (Zc cls d) X.env.locals s'.heap := by rw [← hs]; exact sky
    show wpAny (model X.prog X.w) X.A (noteFrame (.ref a) X.env) _ _ _
    refine Sky.land Zc.steady hfr hf sky' fun h3 fl3 up3 => ?_
    have J3 : Inv X pins σ' H' { s' with heap := h3 } := J.landed nb fl3.1 (up.trans up3) os ag
    obtain ⟨oe3, vs3, he3, hz3, hd3⟩ := fl3.there
    have notFr : ∀ {h : Heap} {o : Obj} {vs : Array Value}, h.FunFrames B (X.env :: X.outer) → h.get? a = some o → o.data = .fields vs → a ∉ frs (X.env :: X.outer) := fun {h o vs} ff e dd hm => by
      obtain ⟨_, o', e', hnf⟩ := ff.mem hm
      rw [e] at e'; cases e'
      exact hnf _ dd
    have nfr := notFr fl3.2.2.1 he3 hd3
    have nL : a ≠ X.env.locals := fun z => nfr (List.mem_filterMap.mpr ⟨X.env, List.mem_cons_self, by rw [hf, z]⟩)
    have nF : a ∉ X.fs := fun hm => by
      obtain ⟨e, he, q⟩ := List.mem_filterMap.mp hm
      exact nfr (List.mem_filterMap.mpr ⟨e, List.mem_cons_of_mem _ he, q⟩)
    have S3 := J3.suite he3 hd3 na nL nF
    have go : ∀ {hds' : List ExceptHandler} {l' : List (Value × (Addr → Value → Option Addr → TS))}, HdsAs X n hds' l' → wManyAs X.K i Wout D l' cls d σ' H' →
        wpAny (model X.prog X.w) X.A (handleBy (.ref a) X.env hds') (SP X pins D) X.xe { s' with heap := h3 } := by
      intro hds' l' hk
      induction hk with
      | nil =>
        intro w
        refine wpAny_handleBy_nil ?_
        obtain ⟨k1, k2, k3, oe, vs, T, oT, ts', he, hz, hd, h1, hr⟩ := id fl3
        unfold PySem.passOn
        refine wpAny_bind (wpAny_field he hd h1 ?_)
        rw [if_neg (show ¬ ((Value.ref T == Value.none) = true) from by simp)]
        have fin : wpAny (model X.prog X.w) X.A (setFlight (.ref a) X.env.frame) (fun _ s4 => wpAny (model X.prog X.w) X.A (throw (.ref a) : Sem Flow) (SP X pins D) X.xe s4) X.xe { s' with heap := h3 } := by
          rw [hf]
          refine HandSPX.setFlight_upZ fl3 fun h4 hh4 up4 => wpAny_throw (tk _ _ ?_)
          exact ⟨a, B, sI, pins, σ', H', cls, d, rfl, J, nb, (up.trans up3).trans up4, .inr (.inr (by rw [hs]; exact hh4)), na, os, ag, w⟩
        first
          | exact wpAny_bind (wpAny_pure (wpAny_bind fin))
          | exact wpAny_bind fin
      | @cons x c ts b₀ suite np pos' hds2 l2 hc hsu r ih =>
        intro w
        obtain ⟨b, hb1, hyes, hno⟩ := w
        refine wpAny_handleBy_cons (codeAny_handlers_test ?_) (by intro q; cases q)
        have LT : PySem.W.Looks (model X.prog X.w) h3 (typeOf (.ref a)) cls := fun A Q E s k q => wpAny_typeOf_ref (k _ _ he3) (by rw [hz3.1]; exact q)
        have LM := PySem.W.exm_one (M := model X.prog X.w) (J3.kIn) LT hb1
        have test : ∀ {Q : Value → Shared → Prop} {E : Value → Shared → Prop}, Q c { s' with heap := h3 } → wpAny (model X.prog X.w) (X.A.mark (some (.ref a))) (eval (.Name x np) X.env) Q E { s' with heap := h3 } := fun {Q E} q => by
          obtain ⟨hg, hdbg, hm | ⟨hm, hv, hnn⟩⟩ := hc
          · exact ld_glob (X := X.suite a ((a, oe3) :: (X.pn ++ pins))) S3 hg hm q hdbg
          · exact ld_blt (X := X.suite a ((a, oe3) :: (X.pn ++ pins))) S3 hg hm hv q hnn hdbg
        refine test (LM.here ?_)
        cases b with
        | true =>
          refine codeAny_handlers_suite_as ?_
          refine HandSPX.lands_againZ fl3 fun h4 fl4 up4 => ?_
          have J4 : Inv X pins σ' H' { s' with heap := h4 } := J.landed nb fl4.1 ((up.trans up3).trans up4) os ag
          obtain ⟨oe4, vs4, he4, hz4, hd4⟩ := fl4.there
          have S4 := J4.suite he4 hd4 na nL nF
          refine store_ok (X := X.suite a ((a, oe4) :: (X.pn ++ pins))) (v := .ref a) S4 hN hi hloc rfl (fun s5 S5 => ?_) (.inr hln)
          refine wpAny_mono ((hsu a oe4 cls d (X.pn ++ pins) hz4 ⟨_, hd4⟩).run [] s5 _ H' _ S5 (hyes rfl a na)) (fun f s6 hsp => ?_) (fun _ _ z => False.elim z)
          have end_ : ∀ {σ6 : St} {H6 : Hp} {Q : Shared → Prop}, Inv (X.suite a ((a, oe4) :: (X.pn ++ pins))) [] σ6 H6 s6 → (∀ s7, Inv X pins (σ6.set i none) H6 s7 → Q s7) →
              wpAny (model X.prog X.w) X.A (do bindName X.env n .none; unbindBehindTheSuite X.env n pos') (fun _ s7 => Q s7) X.xe s6 := fun {σ6 H6 Q} S6 hq => gone_ok (S6.unsuite ok) hN hi hln hq
          cases f with
          | next =>
            obtain ⟨σ6, H6, S6, q6⟩ := hsp
            exact end_ S6 fun s7 J7 => ⟨_, _, J7, q6⟩
          | brk =>
            obtain ⟨σ6, H6, S6, q6⟩ := hsp
            exact end_ S6 fun s7 J7 => ⟨_, _, J7, q6⟩
          | cont =>
            obtain ⟨σ6, H6, S6, q6⟩ := hsp
            exact end_ S6 fun s7 J7 => ⟨_, _, J7, q6⟩
          | ret u =>
            obtain ⟨v6, σ6, H6, S6, r6, q6⟩ := hsp
            exact end_ S6 fun s7 J7 => ⟨_, _, _, J7, r6, q6⟩
        | false =>
          show wpAny _ X.A (handleBy (.ref a) X.env hds2) _ _ _
          exact ih (hno rfl)
    exact go hh w
  · cases f with
    | next =>
      obtain ⟨σ', H', J', q⟩ := hsp
      exact wpAny_execs_nil ⟨σ', H', J'.ofTry ok, q⟩
    | brk =>
      obtain ⟨σ', H', J', q⟩ := hsp
      exact ⟨σ', H', J'.ofTry ok, q⟩
    | cont =>
      obtain ⟨σ', H', J', q⟩ := hsp
      exact ⟨σ', H', J'.ofTry ok, q⟩
    | ret u =>
      obtain ⟨v, σ', H', J', r, q⟩ := hsp
      exact ⟨v, σ', H', J'.ofTry ok, r, q⟩
end
end L2

set_option maxRecDepth 100000
set_option maxHeartbeats 8000000
namespace K59
open PySem PySem.Spec PyProof.Rows L2 Kw
/-- the answer or the refusal due -/
def AnsV (H : Hp) (v : V) (lot : List Nat) (c m : Nat) : Prop :=
  (lot = [] ∧ ∃ t, v = .ref t ∧ H t = some (.tup [.str "none", natV c, natV m])) ∨ (∃ a, lot = [a] ∧ v = natV a) ∨
  (∃ a b r t, lot = a :: b :: r ∧ v = .ref t ∧ H t = some (.tup [.str "two", natV c, natV m, natV a, natV b]))
section
variable {P : Program} {w : World} {K : PySem.W.Frag} {mg : Str → Option Value} {base : Heap} {f fD fX fY C Cn Ct : Addr} {fd fdD fdX fdY : FuncData}
def spLDue : Sp := fun vs H Q _ => ∃ (l : Addr) (lot : List Nat) (c m : Nat), vs = [.ref l, natV c, natV m] ∧ H l = some (.lst (lot.map natV)) ∧ lot.length ≤ 12 ∧ ∀ v H', Same H H' → AnsV H' v lot c m → Q v H'
def spLDefr (C : Addr) : Sp := fun vs H Q _ => ∃ (p : Addr) (ds : List Ent) (c m : Nat), vs = [.ref p, natV c, natV m] ∧ WorldAt H p C ds ∧ DsOk ds ∧ c < ds.length ∧ ds.length ≤ 12 ∧ m < 6 ∧ ∀ v H', Same H H' → AnsV H' v (ansL ds c m) c m → Q v H'
end
end K59

set_option maxRecDepth 100000
set_option maxHeartbeats 4000000
namespace Kw
open PySem PySem.Spec PyProof.Rows L2
/-! ### a law's def that prints: its promise at the one place from which it is called, where no repr is under way -/
section
variable {P : Program} {w : World} {K : PySem.W.Frag} {mg : Str → Option Value} {base : Heap} {x qual : Str} {params : Arguments} {body : List Stmt} {scope : Scope} {dvs : List V} {kws : List (Str × V)} {f : Addr} {fd : FuncData}
/-- the def run at one place -/
theorem def_at {CX : CXT} {N ps : List Str} {k : Nat} {A : Around} {out : List Env} {s : Shared} {H : Hp} {args : Args} {us : List Value} {vs : List V} {Q : VK} {E : XK}
    (D : FunD K x qual params body scope dvs kws f fd) (S : FnScope N ps scope) (hl : vs.length = ps.length) (room : Room (k + 1) A) (env0 : Env0 P w K mg base A out s H) (bind : BindsTo s fd args (ps.zip us)) (rel : Vals vs us)
    (hb : ∀ cdv : Value, ∃ t, PSs (cxOf CX P w K mg base N qual scope f cdv A out s H E) body t ∧ t { nx := fun _ H' => Q .non H', rt := Q } (start N vs) H) :
    codeAny (model P w) A (.call (.ref f) args) (CR CX out P w H s Q E) s := by
  obtain ⟨oc, od, dV, kV, doc, pm, an, cdv, ct, osl, rfl, at_f, code, _, _⟩ := D.ex
  have inK : K.In s.heap := env0.mod.kin.keeps fun b o z => (env0.bs b o z).1
  refine codeAny_call_function room.depth (inK _ _ at_f) rfl S.co S.gen rfl (PySem.W.codeRec_of inK code)
    (bind _ _ _ _ (wpAny_newFunctionEnv_cells S.kind (fun y hy => ?_) fun env he s1 z => ?_))
  · rcases S.par y.1 (List.of_mem_zip hy).1 with a | a
    · exact .inl a
    · exact .inr ⟨a, PySem.W.cellsFrom_some _ _ _ (.inl a)⟩
  · subst he
    have nolim : s.heap.NoLimit := env0.mod.nolimit.keeps fun b o z => (env0.bs b o z).1
    refine ⟨nolim.keeps z.toInCall.keep, codeAny_func ?_⟩
    obtain ⟨t, ht, ht2⟩ := hb cdv
    have I := inv_start (CX := CX) (E := E) S room.hd env0 hl rel z
    have ran := ht.run [] s1 (start N vs) H _ I ht2
    refine wpAny_mono ran (fun fl s' got => ?_) fun e s' got => got
    cases fl with
    | ret u =>
      obtain ⟨v, _, H', J, rv, qv⟩ := got
      exact ⟨v, H', J.os, J.bare, J.base, J.hok, rv, qv⟩
    | next =>
      obtain ⟨_, H', J, qv⟩ := got
      exact ⟨.non, H', J.os, J.bare, J.base, J.hok, rfl, qv⟩
    | brk => obtain ⟨_, _, _, bad⟩ := got; exact bad.elim
    | cont => obtain ⟨_, _, _, bad⟩ := got; exact bad.elim
end
section
variable {P : Program} {w : World} {K : PySem.W.Frag} {mg : Str → Option Value}
/-- the abstract heap ahead of a law: its script, where the module doesn't have it -/
def onlyScript (K : PySem.W.Frag) (a : Addr) (o : Obj) (u : HO) : Hp := fun b => if b = a ∧ K.lookup a = none then some (.frz o u) else none
theorem onlyScript_some {a b : Addr} {o : Obj} {u v : HO} (z : onlyScript K a o u b = some v) : b = a ∧ K.lookup a = none ∧ v = .frz o u := by
  unfold onlyScript at z
  by_cases c : b = a ∧ K.lookup a = none
  · rw [if_pos c] at z
    exact ⟨c.1, c.2, (Option.some.inj z).symm⟩
  · rw [if_neg c] at z
    cases z
theorem onlyScript_none {a b : Addr} {o : Obj} {u : HO} (z : b ≠ a) : onlyScript K a o u b = none := if_neg fun c => z c.1
/-- the law's call: F says what comes of it, from the heap that it finds -/
theorem call_here {mb : Str → Option Value} {CX : CXT} {fa a : Addr} {s : Shared} {vs : List Value} {ns : List Int}
    (inK : K.In s.heap) (nsG : s.heap.Ns mainGlobals mg) (nsB : s.heap.Ns builtinsNs mb) (boot : ∀ x : Str, x ≠ "__name__" → mb x = bootBuiltins x) (nolim : s.heap.NoLimit) (nogen : s.gens = #[])
    (obj : s.heap.get? a = some { cls := .type "list", data := .seq vs.toArray }) (nums : IntsAre vs ns) (size : ns.length ≤ sizeLine)
    (noErr : ∀ H e s', CX [] H s (fun _ _ _ => False) e s' → False)
    (F : ∀ (base : Heap) (H : Hp), K.In base → base.Ns mainGlobals mg → Env0 P w K mg base callerA [] s H → SqL K H a (ns.map V.int) → codeAny (model P w) callerA (.call (.ref fa) ⟨[.ref a], []⟩) (CR CX [] P w H s (fun v _ => v = .bl true) (fun _ _ _ => False)) s) :
    codeAny (model P w) callerA (.call (.ref fa) ⟨[.ref a], []⟩) (fun r s' => r = .ok (.ret (.bool true)) ∧ OldK s.heap s'.heap ∧ s'.os = s.os ∧ AllBare s'.gens) s := by
  have rel := vals_ints nums
  have lenV := nums.length
  generalize hO : ({ cls := .type "list", data := .seq vs.toArray } : Obj) = O at obj
  have Oc : O.cls = .type "list" := by rw [← hO]
  have Od : O.data = .seq vs.toArray 0 := by rw [← hO]
  have Odd : O.dict = none := by rw [← hO]
  generalize hH : onlyScript K a O (.lst (ns.map V.int)) = H
  have Hs : ∀ {b : Addr} {v : HO}, H b = some v → b = a ∧ K.lookup a = none ∧ v = .frz O (.lst (ns.map V.int)) := fun z => onlyScript_some (by rw [hH]; exact z)
  have hid : ∀ {b : Addr} {o : Obj}, s.heap.get? b = some o → H b = none → (hidT s.heap H).get? b = some o := fun e n => hidT_get e n
  have look : K.In (hidT s.heap H) := fun b o e => hid (inK b o e) (by
    cases z : H b with
    | none => rfl
    | some v =>
      obtain ⟨r1, r2, _⟩ := Hs z
      rw [r1, r2] at e
      cases e)
  have spaces : ∀ {b : Addr} {m : Str → Option Value}, s.heap.Ns b m → (hidT s.heap H).Ns b m := fun {b m} z => by
    obtain ⟨o, es, ep, e, d, r⟩ := z
    refine ⟨o, es, ep, hid e ?_, d, r⟩
    cases z : H b with
    | none => rfl
    | some v =>
      rw [(Hs z).1, obj] at e
      rw [← Option.some.inj e, Od] at d
      cases d
  obtain ⟨ml, l1, l2⟩ := nolim
  have held : HOk P w H s.heap := fun b v z => by
    obtain ⟨r1, _, r3⟩ := Hs z
    rw [r1, r3]
    exact ⟨obj, by rw [List.length_map]; exact size, vs, 0, rel, by rw [obj, ← hO]⟩
  have env0 : Env0 P w K mg (hidT s.heap H) callerA [] s H := ⟨rfl, ⟨look, spaces nsG, ⟨mb, spaces nsB, boot⟩, ⟨ml, spaces l1, l2⟩⟩, fun b o e => of_hidT e, Nat.le_of_eq (hidT_size _ _), trivial, fun b hb => absurd (show b ∈ ([] : List Addr) from hb) List.not_mem_nil, held, .of_eq nogen⟩
  have script : SqL K H a (ns.map V.int) := by
    cases kl : K.lookup a with
    | none => exact .inl (.inr ⟨O, by rw [← hH]; exact if_pos ⟨rfl, kl⟩⟩)
    | some o =>
      have e := inK a o kl
      rw [obj] at e
      obtain rfl := Option.some.inj e
      exact .inr ⟨O, vs.toArray, 0, kl, Oc, Odd, Od, by rw [List.size_toArray, lenV]; exact size, by simpa using rel⟩
  refine codeAny_mono (F _ H look (spaces nsG) env0 script) fun r s' got => ?_
  rcases r with er | fl
  · exact (noErr H er s' got).elim
  cases fl with
  | ret u =>
    obtain ⟨v, H', os, bare, un, held', rv, qv⟩ := got
    obtain rfl : v = .bl true := qv
    obtain rfl : u = Value.bool true := rv
    refine ⟨rfl, OldK.of_keep fun b o e => ?_, os, bare⟩
    cases z : H b with
    | none => exact un.keep b o e z (fun y => absurd (show b ∈ ([] : List Addr) from y) List.not_mem_nil) (by simp)
    | some v =>
      obtain ⟨r1, _, r3⟩ := Hs z
      rw [r3] at z
      obtain ⟨e2, _⟩ := held' b _ (un.frzs b O _ z)
      rw [r1] at e e2
      rw [r1]
      rw [obj] at e
      rw [← Option.some.inj e]
      exact e2
  | next => exact got.elim
  | brk => exact got.elim
  | cont => exact got.elim
end
section
variable {X : Cx}
/-- repr of data -/
def rRepr (K : PySem.W.Frag) : List V → Hp → VK → Prop := fun xs H Q => ∃ (a : Addr) (d : PyData), xs = [.ref a] ∧ Dp K H (.ref a) d ∧ d.showable = true ∧ d.hasDict = false ∧ d.depth ≤ 60 ∧ d.shown.length ≤ sizeLine ∧ Q (.str d.shown) H
theorem call_reprD (quiet : X.A.guards = some []) (hu : X.A.units + 65 < cLine) : CallR X (.builtin "repr") (rRepr X.K) := by
  intro pins s σ H xs us Q I r h
  obtain ⟨a, d, rfl, hd, hs, hn, h60, hz, q⟩ := h
  obtain ⟨u, rfl, ru⟩ := vals1 r
  obtain ⟨as, rd⟩ := Dp.reads I d (.ref a) u hd ru
  obtain rfl : u = Value.ref a := ru
  exact repr_of_reads' rd hs (fun e => by rw [hn] at e; cases e) quiet (by omega) (fun _ _ e => e) (fun h' t tk kept => ⟨.str d.shown, H, I.kept (t' := tk) kept, ⟨t, rfl⟩, q⟩) hz
end
end Kw
namespace Kw
open PySem PySem.Spec PyProof.Rows L2
/-! ### small data: its text fits a line -/
structure Sm (n b : Nat) (d : PyData) : Prop where
  lay : d.canLay0 = true
  dep : d.depth ≤ n
  wt : d.weight ≤ b
  sh : d.intsShort 13 = true
  sho : d.showable = true
theorem Sm.le {n m b c : Nat} {d : PyData} (h : Sm n b d) (k : n ≤ m) (l : b ≤ c) : Sm m c d := ⟨h.lay, Nat.le_trans h.dep k, Nat.le_trans h.wt l, h.sh, h.sho⟩
theorem Sm.fits {n b : Nat} {d : PyData} (h : Sm n b d) (hn : n ≤ 60) (hb : b ≤ 10000) : d.shown.length ≤ sizeLine := by
  have h2 := PyData.shown_le 13 (by decide) d (PyData.leavesShort_of_canLay0 13 d h.lay h.sh)
  have := h.wt
  have e : sizeLine = 2 ^ 24 := by decide
  rw [e]
  omega
theorem Sm.nodict {n b : Nat} {d : PyData} (h : Sm n b d) : d.hasDict = false := PyData.hasDict_of_canLay d h.lay
theorem sm_ints : ∀ m : Nat, m < 16 → (PyData.shown (.int (m : Int))).length ≤ 13 ∧ PyData.weight (.int (m : Int)) ≤ 4 ∧ PyData.showable (.int (m : Int)) = true := by decide +kernel
theorem Sm.nat {m : Nat} (h : m < 16) : Sm 0 4 (.int (m : Int)) := by
  obtain ⟨h1, h2, h3⟩ := sm_ints m h
  exact ⟨by simp [PyData.canLay0], by simp [PyData.depth], h2, by simpa [PyData.intsShort] using h1, h3⟩
theorem Sm.non : Sm 0 0 .none := ⟨rfl, by simp [PyData.depth], by simp [PyData.weight], rfl, rfl⟩
theorem sm_all {n b : Nat} : ∀ {ds : List PyData}, (∀ d ∈ ds, Sm n b d) → PyData.canLayAll0 ds = true ∧ PyData.depthAll ds ≤ n ∧ PyData.weightAll ds ≤ ds.length * (b + 1) ∧ PyData.intsShortAll 13 ds = true ∧ PyData.showableAll ds = true
  | [], _ => ⟨rfl, Nat.zero_le _, Nat.zero_le _, rfl, rfl⟩
  | x :: r, h => by
    obtain ⟨h1, h2, h3, h4, h5⟩ := sm_all (ds := r) fun d hd => h d (List.mem_cons_of_mem _ hd)
    have g := h x List.mem_cons_self
    refine ⟨by simp [PyData.canLayAll0, g.lay, h1], by simp only [PyData.depthAll]; have := g.dep; omega, ?_, by simp [PyData.intsShortAll, g.sh, h4], by simp [PyData.showableAll, g.sho, h5]⟩
    simp only [PyData.weightAll, List.length_cons, Nat.succ_mul]
    have := g.wt
    omega
theorem Sm.tuple {n b l : Nat} {ds : List PyData} (h : ∀ d ∈ ds, Sm n b d) (hl : ds.length ≤ l) : Sm (n + 1) (l * (b + 1)) (.tuple ds) := by
  obtain ⟨h1, h2, h3, h4, h5⟩ := sm_all h
  have := Nat.mul_le_mul_right (b + 1) hl
  exact ⟨by simpa [PyData.canLay0] using h1, by simp only [PyData.depth]; omega, by simp only [PyData.weight]; omega, by simpa [PyData.intsShort] using h4, by simpa [PyData.showable] using h5⟩
section
variable {X : Cx}
/-- repr of small data of any kind -/
def rReprA (K : PySem.W.Frag) : List V → Hp → VK → Prop := fun xs H Q => ∃ (x : V) (d : PyData) (n b : Nat), xs = [x] ∧ Dp K H x d ∧ Sm n b d ∧ n ≤ 60 ∧ b ≤ 10000 ∧ Q (.str d.shown) H
theorem call_reprA (quiet : X.A.guards = some []) (hu : X.A.units + 65 < cLine) : CallR X (.builtin "repr") (rReprA X.K) := by
  intro pins s σ H xs us Q I r h
  obtain ⟨x, d, n, b, rfl, hd, sm, hn, hb, q⟩ := h
  obtain ⟨u, rfl, ru⟩ := vals1 r
  obtain ⟨as, rd⟩ := Dp.reads I d x u hd ru
  have hdep := sm.dep
  cases rd with
  | none => exact PySem.P.repr_of_none ⟨.str _, H, I.tok _, ⟨_, rfl⟩, q⟩
  | bool c => exact PySem.P.repr_of_bool ⟨.str _, H, I.tok _, ⟨_, rfl⟩, q⟩
  | int i t =>
    have hs := sm.sho
    have hs : i.natAbs.log2 < 1920 := of_decide_eq_true hs
    exact PySem.P.repr_of_int hs ⟨.str _, H, I.tok _, ⟨_, rfl⟩, q⟩
  | str z t => exact PySem.P.repr_of_str ⟨.str _, H, I.tok _, ⟨_, rfl⟩, q⟩ (sm.fits hn hb)
  | list h1 h2 h3 h4 => exact repr_of_reads' (.list h1 h2 h3 h4) sm.sho (fun e => by rw [sm.nodict] at e; cases e) quiet (by omega) (fun _ _ e => e) (fun h' t tk kept => ⟨.str _, H, I.kept (t' := tk) kept, ⟨t, rfl⟩, q⟩) (sm.fits hn hb)
  | tuple h1 h2 h3 h4 => exact repr_of_reads' (.tuple h1 h2 h3 h4) sm.sho (fun e => by rw [sm.nodict] at e; cases e) quiet (by omega) (fun _ _ e => e) (fun h' t tk kept => ⟨.str _, H, I.kept (t' := tk) kept, ⟨t, rfl⟩, q⟩) (sm.fits hn hb)
  | dict h1 h2 h3 h4 h5 =>
    have := sm.lay
    simp [PyData.canLay0] at this
end
end Kw

set_option maxRecDepth 100000
set_option maxHeartbeats 8000000
namespace Kw
open PySem PySem.Spec PyProof.Rows L2
/-- a law whose def prints: it is run at the one place from which it is called -/
theorem walk_here {l : PySem.W.OpenLaw} {n : Nat} {q : Program} {loose : List Str} {XP : (Str → Option Value) → Heap → Prop} {YP : World → Heap → Prop} {d : DefRec} {CX : CXT}
    (hn : l.most = some n) (hn2 : n ≤ sizeLine) (hdf : d.params.defaults = [])
    (F : ∀ (w : World) (mg : Str → Option Value) (fa : Addr) (h : Heap), YP w h → h.Ns mainGlobals mg → mg d.name = some (.ref fa) →
      ∃ K : PySem.W.Frag, K.In h ∧ ∀ (base : Heap) (H : Hp) (s : Shared) (a : Addr) (ns : List Int), K.In base → base.Ns mainGlobals mg → ns.length ≤ n → Env0 l.prog w K mg base callerA [] s H → SqL K H a (ns.map V.int) →
        codeAny (model l.prog w) callerA (.call (.ref fa) ⟨[.ref a], []⟩) (CR CX [] l.prog w H s (fun v _ => v = .bl true) (fun _ _ _ => False)) s)
    (hCX : ∀ (H : Hp) (s : Shared) (e : Value) (s' : Shared), CX [] H s (fun _ _ _ => False) e s' → False) :
    PySem.W.WalkO q loose XP YP l.row.toRowW d [] (fun f vs => PySem.call f vs) := by
  refine Att.attach_call hn hdf fun w s₀ s₁ mg mb fa o pm cd doc a vs ns G Y ho hd hcd hmg hobj hints hlen hg => ?_
  obtain ⟨K, KX, hF⟩ := F w mg fa _ Y G.T.g hmg
  exact call_here KX G.T.g G.T.b G.T.builtins G.T.nolimit hg hobj hints (Nat.le_trans hlen hn2) (fun H e s' => hCX H s₁ e s') fun base H hb hbn e0 hS => hF base H s₁ a ns hb hbn hlen e0 hS
theorem Sm.strN : Sm 0 20 (.str ("none" : Str)) := ⟨by decide +kernel, by decide +kernel, by decide +kernel, by decide +kernel, by decide +kernel⟩
theorem Sm.strT : Sm 0 20 (.str ("two" : Str)) := ⟨by decide +kernel, by decide +kernel, by decide +kernel, by decide +kernel, by decide +kernel⟩
theorem ne_self {x : V} : (!decide (x = x)) = false := by rw [decide_eq_true rfl]; rfl
end Kw
namespace K59
open PySem PySem.Spec PyProof.Rows L2 Kw
theorem sm_ns {l : List Nat} {n : Nat} (h : ∀ x ∈ l, x < 16) (hl : l.length ≤ n) : Sm 1 (n * 5) (.tuple (l.map dN)) := Sm.tuple (n := 0) (b := 4) (fun d hd => by
  obtain ⟨x, hx, rfl⟩ := List.mem_map.mp hd
  exact Sm.nat (h x hx)) (by rw [List.length_map]; exact hl)
theorem sm_pairs {l : List (Nat × Nat)} {n : Nat} (h : ∀ x ∈ l, x.1 < 16 ∧ x.2 < 16) (hl : l.length ≤ n) : Sm 2 (n * 11) (.tuple (l.map dPair)) := Sm.tuple (n := 1) (b := 10) (fun d hd => by
  obtain ⟨x, hx, rfl⟩ := List.mem_map.mp hd
  exact Sm.tuple (n := 0) (b := 4) (l := 2) (fun d hd => by
    rcases List.mem_cons.mp hd with rfl | hd
    · exact Sm.nat (h x hx).1
    · rw [List.mem_singleton.mp hd]
      exact Sm.nat (h x hx).2) (by simp)) (by rw [List.length_map]; exact hl)
def dAns (lot : List Nat) (c m : Nat) : PyData := match lot with
  | [] => .tuple [.str "none", dN c, dN m]
  | [a] => dN a
  | a :: b :: _ => .tuple [.str "two", dN c, dN m, dN a, dN b]
theorem AnsV.dp {K : PySem.W.Frag} {H : Hp} {v : V} {lot : List Nat} {c m : Nat} (h : AnsV H v lot c m) : Dp K H v (dAns lot c m) := by
  rcases h with ⟨rfl, t, rfl, ht⟩ | ⟨a, rfl, rfl⟩ | ⟨a, b, r, t, rfl, rfl, ht⟩
  · exact .tup (SqT.of ht) (.cons (.str _) (.cons (.int _) (.cons (.int _) .nil)))
  · exact .int _
  · exact .tup (SqT.of ht) (.cons (.str _) (.cons (.int _) (.cons (.int _) (.cons (.int _) (.cons (.int _) .nil)))))
theorem sm_ans {lot : List Nat} {c m : Nat} (h : ∀ x ∈ lot, x < 16) (hc : c < 16) (hm : m < 16) : Sm 1 105 (dAns lot c m) := by
  match lot, h with
  | [], _ =>
    exact (Sm.tuple (n := 0) (b := 20) (l := 5) (fun d hd => by
      rcases List.mem_cons.mp hd with rfl | hd
      · exact Sm.strN
      rcases List.mem_cons.mp hd with rfl | hd
      · exact (Sm.nat hc).le (by decide) (by decide)
      rw [List.mem_singleton.mp hd]
      exact (Sm.nat hm).le (by decide) (by decide)) (by simp))
  | [a], h => exact (Sm.nat (h a List.mem_cons_self)).le (by decide) (by decide)
  | a :: b :: r, h =>
    exact (Sm.tuple (n := 0) (b := 20) (l := 5) (fun d hd => by
      rcases List.mem_cons.mp hd with rfl | hd
      · exact Sm.strT
      rcases List.mem_cons.mp hd with rfl | hd
      · exact (Sm.nat hc).le (by decide) (by decide)
      rcases List.mem_cons.mp hd with rfl | hd
      · exact (Sm.nat hm).le (by decide) (by decide)
      rcases List.mem_cons.mp hd with rfl | hd
      · exact (Sm.nat (h a List.mem_cons_self)).le (by decide) (by decide)
      rw [List.mem_singleton.mp hd]
      exact (Sm.nat (h b (List.mem_cons_of_mem _ List.mem_cons_self))).le (by decide) (by decide)) (by simp))
def dOpt (o : Option (List Nat)) : PyData := match o with
  | none => .none
  | some l => .tuple (l.map dN)
theorem OptP2.dp {K : PySem.W.Frag} {H : Hp} {v : V} {o : Option (List Nat)} (h : OptP2 H v o) : Dp K H v (dOpt o) := by
  rcases h with ⟨rfl, rfl⟩ | ⟨a, b, t, rfl, rfl, ht⟩
  · exact .non
  · exact .tup (SqT.of ht) (.cons (.int _) (.cons (.int _) .nil))
theorem sm_opt {H : Hp} {v : V} {o : Option (List Nat)} {cond : Nat → Nat → Bool} {xs : List Nat} (h : OptP2 H v o) (l : Least cond xs o) (hx : ∀ x ∈ xs, x < 16) : Sm 1 10 (dOpt o) := by
  rcases h with ⟨rfl, rfl⟩ | ⟨a, b, t, rfl, rfl, ht⟩
  · exact Sm.non.le (by decide) (by decide)
  · rcases l with ⟨e, _⟩ | ⟨a', b', e, h1, h2, _⟩
    · cases e
    · obtain rfl := (List.cons.inj (Option.some.inj e)).1
      obtain rfl := (List.cons.inj (List.cons.inj (Option.some.inj e)).2).1
      exact sm_ns (n := 2) (fun x hm => by
        rcases List.mem_cons.mp hm with rfl | hm
        · exact hx _ h1
        · rw [List.mem_singleton.mp hm]
          exact hx _ h2) (by simp)
theorem ansL_mem {ds : List Ent} {c m x : Nat} (h : x ∈ ansL ds c m) : x ∈ defL ds c m := (List.mem_filter.mp h).1
theorem ansL_len {ds : List Ent} {c m : Nat} : (ansL ds c m).length ≤ (defL ds c m).length := List.length_filter_le _ _
theorem twoIn_mem {ds : List Ent} {c j : Nat} {p : Nat × Nat} (h : p ∈ twoIn ds c j) : p.1 = c ∧ p.2 < j := by
  obtain ⟨m, hm, rfl⟩ := List.mem_map.mp h
  exact ⟨rfl, List.mem_range.mp (List.mem_filter.mp hm).1⟩
theorem twoUp_mem {ds : List Ent} {i : Nat} {p : Nat × Nat} (h : p ∈ twoUp ds i) : p.1 < i ∧ p.2 < 6 := by
  obtain ⟨c, hc, h⟩ := List.mem_flatMap.mp h
  obtain ⟨h1, h2⟩ := twoIn_mem h
  exact ⟨by rw [h1]; exact List.mem_range.mp hc, h2⟩
theorem PairsAt.updL {H : Hp} {D : Addr} {xs ys : List V} (hD : H D = some (.lst xs)) : ∀ {us : List V} {ps : List (Nat × Nat)}, PairsAt H us ps → PairsAt (upd H D (.lst ys)) us ps
  | [], [], _ => .nil
  | _ :: _, _ :: _, .cons ⟨t, e, h⟩ r => .cons ⟨t, e, upB (fun z => by rw [z, hD] at h; cases h) h⟩ (PairsAt.updL hD r)
theorem twoIn_zero {ds : List Ent} {c : Nat} : twoIn ds c 0 = [] := rfl
end K59

set_option maxRecDepth 100000
set_option maxHeartbeats 4000000
/-! sorted by a key whose answers may hold lists that stood before the call (len(xs), xs): an arrangement of the items -/
namespace Kw
open PySem PySem.W PySem.Calls PyProof.Rows
section
variable {prog : Program} {w : World} {A : Around} {E : Value → Shared → Prop}
/-- what a call for a key does: it keeps all, and answers data whose lists stood at h₁ -/
def KeyL (h₁ : Heap) (k : PyData) (s : Shared) (v : Value) (s2 : Shared) : Prop :=
  ∃ (g : Heap) (tk : Nat) (as : List Addr), s2 = { s with heap := g, toks := tk } ∧ (∀ b o, s.heap.get? b = some o → g.get? b = some o) ∧ Reads g v k as ∧ ∀ b ∈ as, ∃ o, h₁.get? b = some o
/-- the keys collected so far -/
def KeysL (h₁ g : Heap) (vs : List Value) (ks : List PyData) : Prop := EachIs (fun v k => ∃ as, Reads g v k as ∧ alike k k = true ∧ ∀ b ∈ as, ∃ o, h₁.get? b = some o) vs ks
theorem keys_run {s : Shared} {a S : Addr} {f : Value} {vs : List Value} {kz : List PyData} {e1 : Nat} {h₁ : Heap} {P : PySem.Fin → Shared → Prop} (kp : KeepsBut a h₁ s.heap) (fresh : h₁.get? S = none) (atS : s.heap.get? S = some (seqObj "list" #[] 0))
    (ata : s.heap.get? a = some (seqObj "list" #[] e1)) (ne : S ≠ a) (len : kz.length = vs.length) (fits : vs.length ≤ sizeLine) (al : AllAlike kz) (so : Sortable kz) (room : ∀ d, d ∈ kz → A.units + d.depth < cLine)
    (turn : ∀ (i : Nat) (v : Value) (k : PyData), vs[i]? = some v → kz[i]? = some k → ∀ (g : Heap) (tk : Nat), KeepsBut a h₁ g → wpAny (model prog w) A (call f [v]) (KeyL h₁ k { s with heap := g, toks := tk }) (fun _ _ => False) { s with heap := g, toks := tk })
    (fin : ∀ g tk out c, KeepsBut a h₁ g → g.get? a = some (seqObj "list" (List.toArray out) c) → KeyedOut false kz vs out → P (.done (.ret .none)) { s with heap := g, toks := tk }) :
    wpAny (model prog w) A (ksk_rest a f false vs.toArray e1 (.ref S)) P E s := by
  let J : Nat → Shared → Prop := fun i s' => ∃ g tk kA e, s' = { s with heap := g, toks := tk } ∧ KeepsBut a h₁ g ∧ g.get? S = some (seqObj "list" kA e) ∧ g.get? a = some (seqObj "list" #[] e1) ∧ KeysL h₁ g kA.toList (kz.take i)
  unfold ksk_rest
  refine wpAny_bind (wpAny_rule ?_)
  first
    | rw [List.forIn_toArray]
    | (rw [← Array.forIn_toList]; simp only [List.toList_toArray])
    | rw [← Array.forIn_toList]
  refine wpAny_bind (ksk_fold J vs 0 s ⟨s.heap, s.toks, #[], 0, rfl, kp, atS, ata, by rw [List.take_zero]; exact EachIs.nil⟩ (fun j x s' hx z => ?_) fun s' z => ?_)
  · rw [Nat.zero_add] at z ⊢
    obtain ⟨g, tk, kA, e, rfl, kpg, gS, ga, ks⟩ := z
    have jl : j < vs.length := (List.getElem?_eq_some_iff.mp hx).1
    obtain ⟨k, hk⟩ : ∃ k, kz[j]? = some k := ⟨_, List.getElem?_eq_getElem (by omega)⟩
    have kk := al k (List.mem_of_getElem? hk) k (List.mem_of_getElem? hk)
    have sz : kA.size ≤ vs.length := by
      have := EachIs.length ks
      rw [Array.length_toList, List.length_take] at this
      omega
    refine wpAny_bind (wpAny_attempt (wpAny_mono (turn j x k hx hk g tk kpg) (fun v s'' got => ?_) fun _ _ z => z.elim))
    obtain ⟨g2, tk2, as, rfl, hg, hr, old⟩ := got
    have gS2 := hg _ _ gS
    have put := Heap.SameBut.update g2 S (Obj.mapSeq (·.push v))
    obtain ⟨c2, at2⟩ : ∃ c2, (g2.update S (Obj.mapSeq (·.push v))).get? S = some (seqObj "list" (kA.push v) c2) := ⟨_, get?_update_seq gS2 (·.push v)⟩
    have stays : ∀ {u : Value} {d : PyData}, (∃ as, Reads g2 u d as ∧ alike d d = true ∧ ∀ b ∈ as, ∃ o, h₁.get? b = some o) → ∃ as, Reads (g2.update S (Obj.mapSeq (·.push v))) u d as ∧ alike d d = true ∧ ∀ b ∈ as, ∃ o, h₁.get? b = some o := by
      rintro u d ⟨bs, r, dd, o⟩
      refine ⟨bs, Reads.keepBut (a := S) (fun b u hb z => (put.2 b hb).trans z) (fun u z => by rw [gS2] at z; rw [← Option.some.inj z]) d u bs dd r (fun z => ?_), dd, o⟩
      obtain ⟨u, hu⟩ := o S z
      rw [fresh] at hu
      cases hu
    refine wpAny_bind (listUpdate_at gS2 rfl ?_ (Nat.le_trans sz fits) (by rw [Array.size_push]; omega))
    refine wpAny_pure ⟨rfl, _, _, kA.push v, c2, rfl, (kpg.trans_all hg).same put (.inr fresh), at2, (put.2 a (Ne.symm ne)).trans (hg _ _ ga), ?_⟩
    have e1 : kz.take (j + 1) = kz.take j ++ [k] := by
      rw [List.take_add_one, hk]
      rfl
    have e2 : (kA.push v).toList = kA.toList ++ [v] := by simp
    show KeysL h₁ _ (kA.push v).toList (kz.take (j + 1))
    rw [e1, e2]
    exact each_snoc (stays ⟨as, hr, kk, old⟩) (EachIs.mono (fun u d ⟨bs, r, z⟩ => stays ⟨bs, PyProof.Rows.Reads.keeps hg r, z⟩) ks)
  · rw [Nat.zero_add] at z
    obtain ⟨g, tk, kA, e, rfl, kpg, gS, ga, ks⟩ := z
    have ks2 : EachIs (fun v k => ∃ as, Reads g v k as) kA.toList kz := by
      have e3 : kz.take vs.length = kz := List.take_of_length_le (by omega)
      unfold KeysL at ks
      rw [e3] at ks
      exact EachIs.mono (fun _ _ ⟨bs, r, _⟩ => ⟨bs, r⟩) ks
    have sz : kA.size = vs.length := by
      have := EachIs.length ks2
      rw [Array.length_toList] at this
      omega
    refine wpAny_bind (listItems_at gS rfl ?_)
    exact keyH_end (κ := dataKind g kz) (h₁ := h₁) kpg fresh gS ga ne (SortsAt.data (s := { s with heap := g, toks := tk }) ks2 al so room) sz fits fun g3 tk3 c k3 n3 => fin g3 tk3 _ c k3 n3 ⟨g, kA.toList, al, rfl, ks2⟩
/-- sorted(xs, key=f): the items, arranged; all that stood stays -/
theorem sorted_keyL {s : Shared} {l : Addr} {f : Value} {vs : List Value} {kz : List PyData} {Q : Value → Shared → Prop} (hl : s.heap.IsList l vs.toArray) (len : kz.length = vs.length) (fits : vs.length ≤ sizeLine) (al : AllAlike kz) (so : Sortable kz)
    (room : ∀ d, d ∈ kz → A.units + 2 + d.depth < cLine) (okS : argsOk "sorted" ⟨[.ref l], [(Str.ofString "key", f)]⟩) (okL : ∀ x, argsOk "list.sort" ⟨[.ref x], [(Str.ofString "key", f)]⟩) (tree : ∀ x, Builtin.«list.sort» ⟨[.ref x], [(Str.ofString "key", f)]⟩ = ksk_tree x f false)
    (turn : ∀ (i : Nat) (v : Value) (k : PyData), vs[i]? = some v → kz[i]? = some k → ∀ (g : Heap) (tk : Nat), (∀ b o, s.heap.get? b = some o → g.get? b = some o) →
      wpAny (model prog w) A.in1.in1 (call f [v]) (KeyL s.heap k { s with heap := g, toks := tk }) (fun _ _ => False) { s with heap := g, toks := tk })
    (fin : ∀ out c g tk, (∀ b o, s.heap.get? b = some o → g.get? b = some o) → g.get? (s.heap.objs.size + 1) = some (seqObj "list" (List.toArray out) c) → KeyedOut false kz vs out → Q (.ref (s.heap.objs.size + 1)) { s with heap := g, toks := tk }) :
    wpAny (model prog w) A (call (.builtin "sorted") [.ref l] [(Str.ofString "key", f)]) Q E s := by
  have up : ∀ {g : Heap}, KeepsBut (s.heap.objs.size + 1) (copyHeap s.heap vs) g → ∀ b o, s.heap.get? b = some o → g.get? b = some o := fun {g} k b o z => k b o (by have := Heap.lt_size z; exact Nat.ne_of_lt (Nat.lt_succ_of_lt this)) (copyHeap_old z)
  refine sorted_of_sort hl fits okS okL fun E' => ?_
  rw [tree]
  have at0 := copyHeap_at s.heap vs
  generalize hC : copyHeap s.heap vs = C at at0 up ⊢
  have inC := Heap.lt_size at0
  obtain ⟨e1, at1⟩ : ∃ e1, (C.update (s.heap.objs.size + 1) (Obj.mapSeq fun _ => (#[] : Array Value))).get? (s.heap.objs.size + 1) = some (seqObj "list" #[] e1) := ⟨_, get?_update_seq at0 fun _ => #[]⟩
  have size2 : ((C.update (s.heap.objs.size + 1) (Obj.mapSeq fun _ => (#[] : Array Value))).push (seqObj "tuple" vs.toArray 0)).objs.size = C.objs.size + 1 := by rw [size_push', Heap.size_update]
  unfold ksk_tree
  refine wpAny_bind (listItems_at at0 rfl ?_)
  refine wpAny_bind (listUpdate_at at0 rfl ?_ (by rw [List.size_toArray]; exact fits) (Nat.zero_le _))
  refine wpAny_bind (seqEpoch_at at1 rfl ?_)
  refine wpAny_bind (wpAny_newTuple ?_ (by show vs.length ≤ _; exact fits))
  refine wpAny_bind (wpAny_newList ?_ (Nat.zero_le _))
  refine wpAny_holding ?_
  have kp : KeepsBut (s.heap.objs.size + 1) C (sortingHeap C (s.heap.objs.size + 1) vs) := fun b o hb z => sortingHeap_old hb z
  refine keys_run (A := A.in1.in1) (s := { s with heap := sortingHeap C (s.heap.objs.size + 1) vs }) (S := ((C.update (s.heap.objs.size + 1) (Obj.mapSeq fun _ => (#[] : Array Value))).push (seqObj "tuple" vs.toArray 0)).objs.size) (h₁ := C) (kz := kz) kp
    (Heap.get?_none_of_le (by rw [size2]; exact Nat.le_succ _)) (Heap.get?_push_size _ rfl) (Heap.get?_push_of_some _ (Heap.get?_push_of_some _ at1)) (by rw [size2]; exact Nat.ne_of_gt (Nat.lt_succ_of_lt inC)) len fits al so (fun d hd => room d hd) (fun i v k hv hk g tk kpg => ?_) fun g tk out c kpg atg ko => ⟨rfl, fin out c g tk (up kpg) atg ko⟩
  refine wpAny_mono (turn i v k hv hk g tk (up kpg)) (fun u s2 z => ?_) fun _ _ z => z
  obtain ⟨g2, tk2, as, e, h1, h2, h3⟩ := z
  refine ⟨g2, tk2, as, e, h1, h2, fun b hb => ?_⟩
  obtain ⟨o, ho⟩ := h3 b hb
  exact ⟨o, by rw [← hC]; exact copyHeap_old ho⟩
end
end Kw

set_option maxRecDepth 100000
set_option maxHeartbeats 4000000
/-! sorted(xs, key=lambda p: (len(p), p)) for a list of lists of ints -/
namespace Kw
open PySem PySem.W PySem.Spec PySem.Calls PyProof.Rows
/-- the parameters, the text and the names of such a lambda -/
def lenPs (p : Str) (p0 : Pos) : Arguments := { posonlyargs := [], args := [{ arg := p, annotation := none, pos := p0 }], vararg := none, kwonlyargs := [], kw_defaults := [], kwarg := none, defaults := [] }
def lenEx (p : Str) (p1 p2 p3 p4 p5 : Pos) : Expr := .Tuple [.Call (.Name "len" p1) [.Name p p2] [] p3, .Name p p4] 0 p5
def lenSc (p : Str) : Scope := { kind := .function, names := [(p, .local), ("len", .globalImplicit)], isGenerator := false, isCoroutine := false, more := [] }
section
variable {prog : Program} {w : World} {A : Around} {s : Shared}
/-- called with a list: its length and itself, in a new tuple; all that stood stays -/
theorem lam_key {f t c' : Addr} {q p : Str} {p0 p1 p2 p3 p4 p5 : Pos} {pm ctv : Value} {its : Array Value} {mg mb : Str → Option Value} {ns : List PyData} {as : List Addr} (hf : s.heap.get? f = some (kla_obj "<lambda>" q (lenPs p p0) (lenEx p p1 p2 p3 p4 p5) (lenSc p) [] pm c' ctv))
    (code : s.heap.CodeRec (.ref c') q) (lim : s.heap.NoLimit) (glob : s.heap.Ns mainGlobals mg) (free : mg "len" = none) (blt : s.heap.Ns builtinsNs mb) (boot : mb "len" = some (.builtin "len")) (hl : s.heap.IsList t its) (fit : (its.size : Int) < 2 ^ 63)
    (hns : ReadsAll s.heap its.toList ns as) (deep : A.depth < recursionLimit) (hp : (p == ("__debug__" : Str)) = false) (hq : (("len" : Str) == p) = false) (rd : bindArgs (kla_fn "<lambda>" q (lenPs p p0) (lenEx p p1 p2 p3 p4 p5) (lenSc p) [] pm (.ref c') ctv) ⟨[.ref t], []⟩ = pure [(p, .ref t)]) :
    wpAny (model prog w) A (call (.ref f) [.ref t]) (fun v s2 => ∃ g tk, s2 = { s with heap := g, toks := tk } ∧ (∀ b o, s.heap.get? b = some o → g.get? b = some o) ∧ Reads g v (.tuple [.int its.size, .list ns]) (t :: as)) (fun _ _ => False) s := by
  refine wpAny_call ?_
  refine kla_callFunE deep hf rfl rfl rfl rfl code ?_
  rw [rd]
  refine wpAny_pure (wpAny_newFunctionEnv (fun x hx => ?_) (fun x hx => ?_) (fun h₁ hns1 hsb => ⟨lim.fresh _ hsb, ?_⟩) rfl)
  · rcases List.mem_cons.mp hx with rfl | hx
    · exact fun z => by cases z
    · rw [List.mem_singleton.mp hx]
      exact fun z => by cases z
  · rw [List.mem_singleton.mp hx]
    show List.lookup p [(p, NameKind.local), ("len", NameKind.globalImplicit)] = _
    rw [List.lookup_cons, beq_self_eq_true]
  have kp : ∀ b o, s.heap.get? b = some o → h₁.get? b = some o := fun b o e => hsb.extBut b o (Nat.ne_of_lt (Heap.lt_size e)) (Heap.get?_push_of_some _ e)
  show codeAny _ _ (.expr (lenEx p p1 p2 p3 p4 p5) (envX q (lenSc p) s.heap.objs.size f (.ref c') [])) _ _
  have loc : ∀ {E : Value → Shared → Prop} {Q : Value → Shared → Prop} {B : Around} {h2 : Heap} {tk : Nat} {pos : Pos}, h2.Ns s.heap.objs.size (fun x => ([(p, Value.ref t)] : List (Str × Value)).reverse.lookup x) → Q (.ref t) { s with heap := h2, toks := tk } →
      wpAny (model prog w) B (eval (.Name p pos) (envX q (lenSc p) s.heap.objs.size f (.ref c') [])) Q E { s with heap := h2, toks := tk } := fun {E Q B h2 tk pos} n z => by
    refine wpAny_Name (wpAny_loadName_local rfl ?_ n ?_ z) hp
    · show List.lookup p [(p, NameKind.local), ("len", NameKind.globalImplicit)] = _
      rw [List.lookup_cons, beq_self_eq_true]
    · show List.lookup p [(p, Value.ref t)] = _
      rw [List.lookup_cons, beq_self_eq_true]
  have kl : (envX q (lenSc p) s.heap.objs.size f (.ref c') []).kindOf "len" = some .globalImplicit := by
    show List.lookup ("len" : Str) [(p, NameKind.local), ("len", NameKind.globalImplicit)] = _
    rw [List.lookup_cons, hq]
    rfl
  refine kla_codeExpr ?_
  unfold lenEx
  refine wpAny_Tuple_spliced ?_
  refine Calls.spliced_cons (wpAny_Call_Name_kw (Calls.Name_function_global rfl kl (Calls.loadGlobal_builtin (glob.keeps kp) free (blt.keeps kp) boot ?_)))
  refine PyProof.Rows.callWith_builtin1 (Calls.spliced_cons (loc hns1 (Calls.spliced_nil ?_)))
  refine Calls.call_len_list (l := t) (items := its) (by obtain ⟨o, ho, r⟩ := hl; exact ⟨o, kp _ _ ho, r⟩) fit ?_
  refine Calls.spliced_cons (loc hns1 (Calls.spliced_nil ⟨by show 2 ≤ sizeLine; decide, ?_⟩))
  have kp2 : ∀ b o, s.heap.get? b = some o → (h₁.push { cls := .type "tuple", data := .seq #[.int its.size (s.toks + ([(p, Value.ref t)] : List (Str × Value)).length + 1), .ref t] }).get? b = some o := fun b o e => Heap.get?_push_of_some _ (kp b o e)
  obtain ⟨o, ho, hc, n, hd⟩ := hl
  refine ⟨_, _, rfl, kp2, ?_⟩
  refine Reads.tuple (Heap.get?_push_size _ rfl) rfl rfl ?_
  have r1 : ReadsAll (h₁.push { cls := .type "tuple", data := .seq #[.int its.size (s.toks + ([(p, Value.ref t)] : List (Str × Value)).length + 1), .ref t] }) [Value.ref t] [.list ns] ((t :: as) ++ []) := .cons (.list (kp2 _ _ ho) hc hd (PyProof.Rows.ReadsAll.keeps kp2 hns)) .nil
  rw [List.append_nil] at r1
  exact ReadsAll.cons (as := []) (.int _ _) r1
end
/-- lists of ints, tracked -/
def LsAt (H : L2.Hp) : List L2.V → List (List Nat) → Prop := Paired fun v l => ∃ t, v = L2.V.ref t ∧ H t = some (.lst (l.map fun (n : Nat) => L2.V.int (n : Int)))
def lenKey (l : List Nat) : PyData := .tuple [.int (l.length : Int), .list (l.map fun (n : Nat) => PyData.int (n : Int))]
/-- the order by length, then by the lists -/
def byLen : L2.V × List Nat → L2.V × List Nat → Bool := dataLe false fun b => lenKey b.2
theorem vals_reads {h : Heap} : ∀ {l : List Nat} {us : List Value}, L2.Vals (l.map fun (n : Nat) => L2.V.int (n : Int)) us → ReadsAll h us (l.map fun (n : Nat) => PyData.int (n : Int)) []
  | [], us, r => by
    cases r
    exact .nil
  | n :: l, us, r => by
    cases r with
    | cons r1 r2 =>
      obtain ⟨t, rfl⟩ := r1
      exact ReadsAll.cons (as := []) (.int _ _) (vals_reads r2)
theorem keys_alike (bs : List (List Nat)) : AllAlike (bs.map lenKey) := AllAlike.of fun a b => by
  have h : ∀ l : List Nat, (l.map fun (n : Nat) => PyData.int (n : Int)) = (l.map fun (n : Nat) => (n : Int)).map .int := fun l => by rw [List.map_map]; rfl
  unfold lenKey
  rw [h a, h b]
  simp only [alike, alikeAll, Bool.and_true, Bool.true_and]
  exact alike_ints _ _
theorem key_depth (l : List Nat) : (lenKey l).depth ≤ 2 := by
  have h : ∀ l : List Nat, PyData.depthAll (l.map fun (n : Nat) => PyData.int (n : Int)) = 0 := fun l => by
    induction l with
    | nil => rfl
    | cons a r ih =>
      rw [List.map_cons]
      simp [PyData.depthAll, PyData.depth, ih]
  unfold lenKey
  simp only [PyData.depth, PyData.depthAll, h]
  omega
theorem LsAt.at {H : L2.Hp} : ∀ {us : List L2.V} {bs : List (List Nat)} {i : Nat} {v : L2.V}, LsAt H us bs → us[i]? = some v → ∃ l t, bs[i]? = some l ∧ v = .ref t ∧ H t = some (.lst (l.map fun (n : Nat) => L2.V.int (n : Int)))
  | [], [], _, _, _, e => by simp at e
  | _ :: _, b :: _, 0, _, .cons ⟨t, e1, h⟩ _, e => by
    obtain rfl := Option.some.inj e
    exact ⟨b, t, rfl, e1, h⟩
  | _ :: _, _ :: _, i + 1, _, .cons _ r, e => LsAt.at (i := i) r e
theorem vals_at : ∀ {us : List L2.V} {its : List Value} {i : Nat} {v : Value}, L2.Vals us its → its[i]? = some v → ∃ x, us[i]? = some x ∧ L2.RelV x v
  | [], [], _, _, _, e => by simp at e
  | u :: _, _ :: _, 0, _, .cons h _, e => by
    obtain rfl := Option.some.inj e
    exact ⟨u, rfl, h⟩
  | _ :: _, _ :: _, i + 1, _, .cons _ r, e => vals_at (i := i) r e
theorem each_zip {γ : Type} : ∀ {us : List L2.V} {its : List Value} {bs : List γ}, L2.Vals us its → us.length = bs.length → EachIs (fun (v : Value) (b : L2.V × γ) => L2.RelV b.1 v) its (us.zip bs)
  | [], [], [], _, _ => .nil
  | _ :: _, _ :: _, _ :: _, .cons h r, e => .cons h (each_zip r (Nat.succ.inj e))
theorem vals_each {γ : Type} : ∀ {zs : List (L2.V × γ)} {out : List Value}, EachIs (fun (v : Value) (b : L2.V × γ) => L2.RelV b.1 v) out zs → L2.Vals (zs.map (·.1)) out
  | [], [], _ => .nil
  | _ :: _, _ :: _, .cons h r => .cons h (vals_each r)
open L2 LamX in
/-- sorted(xs, key=lambda p: (len(p), p)) -/
def tSortLam (T : List (Addr × Str)) (te : TE) : TE := fun σ H Q => tCons te tNil σ H fun vs H1 => ∃ (a : Addr) (us : List V) (bs : List (List Nat)), vs = [V.ref a] ∧ H1 a = some (.lst us) ∧ LsAt H1 us bs ∧ Tabs T H1 ∧
  ∀ (H2 : Hp) (r : Addr) (zs : List (V × List Nat)), ExtN H1 H2 → Tabs T H2 → H2 r = none → zs = (us.zip bs).mergeSort byLen → Q (.ref r) (upd H2 r (.lst (zs.map (·.1))))
open L2 LamX in
theorem pe_sortLam {X : Cx} {T : List (Addr × Str)} {c P : Addr} {e : Expr} {te : TE} {p : Str} {p0 p1 p2 p3 p4 p5 pn pos lpos kpos : Pos} (hg : Gl X "sorted") (hm : X.mg "sorted" = none) (hlen : X.mg "len" = none) (he : PE X e te) (TB : TabB X.base X.mg c P) (hcode : X.env.code = .ref c)
    (hmT : (P, X.env.qual ++ "<lambda>") ∈ T) (hu : ∀ q ∈ T, q.1 = P → q.2 = X.env.qual ++ "<lambda>") (hr : Room 1 X.A) (hd : (p == ("__debug__" : Str)) = false) (hl : (("len" : Str) == p) = false)
    (rd : ∀ (q : Str) (pm cv ctv u : Value), bindArgs (kla_fn "<lambda>" q (lenPs p p0) (lenEx p p1 p2 p3 p4 p5) (lenSc p) [] pm cv ctv) ⟨[u], []⟩ = pure [(p, u)])
    (hst : starEach [e] X.env = (false, eval e X.env) :: starEach [] X.env := by rfl) :
    PE X (.Call (.Name "sorted" pn) [e] [⟨some "key", .Lambda (lenPs p p0) (lenEx p p1 p2 p3 p4 p5) (lenSc p) lpos, kpos⟩] pos) (tSortLam T te) := by
  refine ⟨fun pins s σ H Q I h => ?_⟩
  refine wpAny_Call_Name_kw (ld_blt I hg hm boot_sorted ?_)
  refine PyProof.Rows.callWith_kw (thn ((pa_cons he pa_nil (hs := hst)).run pos pins s σ H _ I h) fun us1 s1 ⟨vs, H1, I1, r1, q1⟩ => ?_) (by rw [hst]; rfl) (by rw [hst]; rfl)
  obtain ⟨a, us, bs, rfl, ha, hU, hT, q⟩ := q1
  obtain rfl := Vals.ref1 r1
  show wpAny _ _ (evalAll ((do let v ← eval (.Lambda (lenPs p p0) (lenEx p p1 p2 p3 p4 p5) (lenSc p) lpos) X.env; standAt pos; pure v) :: [])) _ _ s1
  refine wpAny_evalAll_cons (wpAny_bind (lam_make2 I1 TB hcode hmT hu hT rfl (fun y hy z => ?_) fun f c' pm ctv H2 s2 I2 eN T2 hf hfn hfr hco => wpAny_bind (wpAny_standAt (wpAny_pure (wpAny_evalAll_nil ?_)))))
  · rcases List.mem_cons.mp hy with rfl | hy
    · cases z
    · rw [List.mem_singleton.mp hy] at z
      cases z
  have ha2 := eN _ _ ha (fun ps z => by cases z)
  have hU2 : LsAt H2 us bs := by
    have go : ∀ {us : List V} {bs : List (List Nat)}, LsAt H1 us bs → LsAt H2 us bs := fun z => by
      induction z with
      | nil => exact .nil
      | cons y _ ih =>
        obtain ⟨t, e1, e2⟩ := y
        exact .cons ⟨t, e1, eN _ _ e2 (fun ps z => by cases z)⟩ ih
    exact go hU
  obtain ⟨its, rv, pl, hz⟩ := I2.list (.inl (.inl ha2))
  have lens : us.length = bs.length := Paired.length hU2
  have lenv : us.length = its.length := rv.length
  obtain ⟨⟨oc, ovs, ot, hoc, hdc, hvc⟩, _, _⟩ := I2.hok c' _ hco
  show wpAny _ _ (call (.builtin "sorted") [.ref a] [(Str.ofString "key", .ref f)]) _ _ s2
  refine sorted_keyL (kz := bs.map lenKey) pl.isList (by rw [List.length_map]; omega) (by omega) (keys_alike bs) (.inl fun d hd => by
      obtain ⟨b, _, rfl⟩ := List.mem_map.mp hd
      exact ⟨_, _, rfl⟩) (fun d hd => by
      obtain ⟨b, _, rfl⟩ := List.mem_map.mp hd
      have h1 := key_depth b
      have h2 := hr.un
      omega) (ksk_s1 _ _) (fun _ => ksk_l1 _ _) (fun _ => ksk_t1 _ _) (fun i v k hv hk g tk kp => ?_) fun out cc g tk kp atg ko => ?_
  · rw [List.getElem?_map] at hk
    obtain ⟨l, hl1, rfl⟩ := Option.map_eq_some_iff.mp hk
    obtain ⟨x, hx, rx⟩ := vals_at rv hv
    obtain ⟨l2, t, e1, rfl, e2⟩ := hU2.at hx
    rw [hl1] at e1
    obtain rfl := Option.some.inj e1
    obtain rfl : v = Value.ref t := rx
    obtain ⟨lits, rl, pll, hzl⟩ := I2.list (.inl (.inl e2))
    have ll : lits.length = l.length := by
      have := rl.length
      rw [List.length_map] at this
      exact this.symm
    obtain ⟨mb, b1, b2⟩ := I2.mod.blt
    have isl := pll.isList
    obtain ⟨ol, hol, rl2⟩ := id isl
    refine wpAny_mono (lam_key (s := { s2 with heap := g, toks := tk }) (its := lits.toArray) (kp _ _ hf) ⟨c', oc, ovs, ot, rfl, kp _ _ hoc, hdc, hvc⟩ (I2.nolimit.keeps kp) ((I2.mod.glob.keeps I2.bk).keeps kp) hlen ((b1.keeps I2.bk).keeps kp) ((b2 "len" (by decide)).trans PySem.boot_len) ⟨ol, kp _ _ hol, rl2⟩ ?_
      (PyProof.Rows.ReadsAll.keeps kp (vals_reads rl)) ?_ hd hl (rd _ _ _ _ _)) (fun u s3 z => ?_) fun _ _ z => z
    · rw [List.size_toArray, ll]
      rw [List.length_map] at hzl
      have : sizeLine = 2 ^ 24 := by decide
      omega
    · have := hr.dp
      show X.A.depth < _
      omega
    · obtain ⟨g2, tk2, e3, k3, r3⟩ := z
      refine ⟨g2, tk2, [t], e3, k3, ?_, fun b hb => ?_⟩
      · rw [List.size_toArray, ll] at r3
        exact r3
      · rw [List.mem_singleton.mp hb]
        exact ⟨ol, hol⟩
  · have ez : (us.zip bs).map (fun b => lenKey b.2) = bs.map lenKey := by
      have : (us.zip bs).map (fun b => lenKey b.2) = ((us.zip bs).map Prod.snd).map lenKey := by
        rw [List.map_map]
        rfl
      rw [this, List.map_snd_zip (by omega)]
    rw [← ez] at ko
    have ex := keyedOut_each (fun b : V × List Nat => lenKey b.2) ko (each_zip rv lens)
    have vo := vals_each ex
    have lo : (((us.zip bs).mergeSort byLen).map (·.1)).length ≤ sizeLine := by
      rw [List.length_map, List.length_mergeSort, List.length_zip]
      omega
    refine ⟨.ref _, _, I2.laid (a := s2.heap.objs.size + 1) (o := .lst (((us.zip bs).mergeSort byLen).map (·.1))) (t' := tk) kp (Nat.le_succ _) ⟨lo, out, cc, vo, atg⟩, rfl, q H2 _ _ eN T2 (I2.hok.fresh (Nat.le_succ _)) rfl⟩
end Kw

set_option maxRecDepth 100000
set_option maxHeartbeats 4000000
/-! a def that makes a lambda, a law that prints and has such defs -/
namespace Kw
open PySem PySem.Spec PyProof.Rows L2 LamX
section
variable {P : Program} {w : World} {K : PySem.W.Frag} {mg : Str → Option Value} {base : Heap} {x qual : Str} {params : Arguments} {body : List Stmt} {scope : Scope} {dvs : List V} {kws : List (Str × V)} {f : Addr} {fd : FuncData}
/-- by the body, the code object known -/
theorem FunD.okC {CX : CXT} {N ps : List Str} {k : Nat} {sp : Sp} {c : Addr} (F : FunD K x qual params body scope dvs kws f fd) (hc : fd.code = .ref c) (S : FnScope N ps scope) (len : ∀ vs H Q E, sp vs H Q E → vs.length = ps.length)
    (run : ∀ (A : Around) (outer : List Env) (s : Shared) (H : Hp) (vs : List V) (Q : VK) (E : XK), Room k (A.deeper (envOfC qual scope s.heap.objs.size f (.ref c))) → sp vs H Q E →
      ∃ t, PSs (cxOf CX P w K mg base N qual scope f (.ref c) A outer s H E) body t ∧ t { nx := fun _ H' => Q .non H', rt := Q } (L2.start N vs) H) : FnOk P w K mg base CX (k + 1) f fd ps sp := by
  obtain ⟨oc, od, dV, kV, doc, pm, an, cdv, ct, osl, rfl, lk, hcd, _, _⟩ := F.ex
  have e : cdv = .ref c := hc
  subst e
  exact fn_of lk hcd S len fun A outer s H vs Q E hr h => run A outer s H vs Q E hr h
theorem FunD.codeAt {p : Str × Option Str} (F : FunD K x qual params body scope dvs kws (He.fAd K p) fd) : fd.code = .ref (He.codeOf K p) := by
  obtain ⟨oc, od, dV, kV, doc, pm, an, cdv, ct, osl, rfl, lk, hcd, _, _⟩ := F.ex
  obtain ⟨c, e⟩ := He.codeIn_ref hcd
  have e : cdv = .ref c := e
  subst e
  rw [He.codeOf_eq lk rfl]
end
section
variable {P : Program} {w : World} {K : PySem.W.Frag} {mg : Str → Option Value}
/-- the abstract heap ahead of such a law: its script, the defs' tables -/
def scriptTabs (K : PySem.W.Frag) (a : Addr) (o : Obj) (u : HO) (ts : List Addr) : Hp := fun b => if b = a then (if K.lookup a = none then some (.frz o u) else none) else if b ∈ ts then some (.tbl #[]) else none
theorem call_hereT {mb : Str → Option Value} {CX : CXT} {fa a : Addr} {s : Shared} {vs : List Value} {ns : List Int} {cs : List (Addr × Addr)}
    (inK : K.In s.heap) (nsG : s.heap.Ns mainGlobals mg) (nsB : s.heap.Ns builtinsNs mb) (boot : ∀ x : Str, x ≠ "__name__" → mb x = bootBuiltins x) (nolim : s.heap.NoLimit) (nogen : s.gens = #[])
    (empty : ∀ p ∈ cs, s.heap.get? p.2 = some { cls := .none, data := .fields #[] }) (apart : ∀ p ∈ cs, K.lookup p.2 = none) (codes : ∀ p ∈ cs, PySem.W.CodeHd s.heap p.1 p.2)
    (bmod : ∃ (bm : Addr) (ob : Obj), mg "__builtins__" = some (.ref bm) ∧ bm ≠ builtinsNs ∧ s.heap.get? bm = some ob ∧ ob.cls = .type "module" ∧ ob.dict = some builtinsNs ∧ ob.data = .plain)
    (obj : s.heap.get? a = some { cls := .type "list", data := .seq vs.toArray }) (nums : IntsAre vs ns) (size : ns.length ≤ sizeLine)
    (noErr : ∀ H e s', CX [] H s (fun _ _ _ => False) e s' → False)
    (F : ∀ (base : Heap) (H : Hp), K.In base → base.Ns mainGlobals mg → (∀ p ∈ cs, TabB base mg p.1 p.2) → (∀ p ∈ cs, H p.2 = some (.tbl #[])) → Env0 P w K mg base callerA [] s H → SqL K H a (ns.map V.int) →
      codeAny (model P w) callerA (.call (.ref fa) ⟨[.ref a], []⟩) (CR CX [] P w H s (fun v _ => v = .bl true) (fun _ _ _ => False)) s) :
    codeAny (model P w) callerA (.call (.ref fa) ⟨[.ref a], []⟩) (fun r s' => r = .ok (.ret (.bool true)) ∧ OldK s.heap s'.heap ∧ s'.os = s.os ∧ AllBare s'.gens) s := by
  have rel := vals_ints nums
  have lenV := nums.length
  generalize hO : ({ cls := .type "list", data := .seq vs.toArray } : Obj) = O at obj
  have Oc : O.cls = .type "list" := by rw [← hO]
  have Od : O.data = .seq vs.toArray 0 := by rw [← hO]
  have Odd : O.dict = none := by rw [← hO]
  have tabAt : ∀ b ∈ cs.map (·.2), s.heap.get? b = some { cls := .none, data := .fields #[] } := fun b hb => by
    obtain ⟨p, hp, rfl⟩ := List.mem_map.mp hb
    exact empty p hp
  have aNo : a ∉ cs.map (·.2) := fun z => by
    have := tabAt a z
    rw [obj] at this
    rw [Option.some.inj this] at Od
    cases Od
  generalize hH : scriptTabs K a O (.lst (ns.map V.int)) (cs.map (·.2)) = H
  have Hs : ∀ {b : Addr} {v : HO}, H b = some v → (b = a ∧ K.lookup a = none ∧ v = .frz O (.lst (ns.map V.int))) ∨ (b ∈ cs.map (·.2) ∧ v = .tbl #[]) := fun {b v} z => by
    rw [← hH] at z
    unfold scriptTabs at z
    by_cases q : b = a
    · rw [if_pos q] at z
      by_cases q2 : K.lookup a = none
      · rw [if_pos q2] at z
        exact .inl ⟨q, q2, (Option.some.inj z).symm⟩
      · rw [if_neg q2] at z
        cases z
    · rw [if_neg q] at z
      by_cases q2 : b ∈ cs.map (·.2)
      · rw [if_pos q2] at z
        exact .inr ⟨q2, (Option.some.inj z).symm⟩
      · rw [if_neg q2] at z
        cases z
  have Ht : ∀ p ∈ cs, H p.2 = some (.tbl #[]) := fun p hp => by
    have m : p.2 ∈ cs.map (·.2) := List.mem_map.mpr ⟨p, hp, rfl⟩
    rw [← hH]
    unfold scriptTabs
    rw [if_neg (fun z => aNo (by rw [← z]; exact m)), if_pos m]
  -- an object of another make is not ours
  have free : ∀ {b : Addr} {o : Obj}, s.heap.get? b = some o → (∀ vs n, o.data ≠ .seq vs n) → o.data ≠ .fields #[] → H b = none := fun {b o} e h1 h2 => by
    cases z : H b with
    | none => rfl
    | some v =>
      rcases Hs z with ⟨r1, _, _⟩ | ⟨r1, _⟩
      · rw [r1, obj] at e
        rw [← Option.some.inj e] at h1
        exact (h1 _ _ Od).elim
      · rw [tabAt b r1] at e
        rw [← Option.some.inj e] at h2
        exact (h2 rfl).elim
  have hid : ∀ {b : Addr} {o : Obj}, s.heap.get? b = some o → H b = none → (hidT s.heap H).get? b = some o := fun e n => hidT_get e n
  have look : K.In (hidT s.heap H) := fun b o e => hid (inK b o e) (by
    cases z : H b with
    | none => rfl
    | some v =>
      rcases Hs z with ⟨r1, r2, _⟩ | ⟨r1, _⟩
      · rw [r1, r2] at e
        cases e
      · obtain ⟨p, hp, ep⟩ := List.mem_map.mp r1
        rw [← ep, apart p hp] at e
        cases e)
  have spaces : ∀ {b : Addr} {m : Str → Option Value}, s.heap.Ns b m → (hidT s.heap H).Ns b m := fun {b m} z => by
    obtain ⟨o, es, ep, e, d, r⟩ := z
    exact ⟨o, es, ep, hid e (free e (fun vs n y => by rw [d] at y; cases y) (fun y => by rw [d] at y; cases y)), d, r⟩
  obtain ⟨ml, l1, l2⟩ := nolim
  have held : HOk P w H s.heap := fun b v z => by
    rcases Hs z with ⟨r1, _, r3⟩ | ⟨r1, r2⟩
    · rw [r1, r3]
      exact ⟨obj, by rw [List.length_map]; exact size, vs, 0, rel, by rw [obj, ← hO]⟩
    · rw [r2]
      exact tabAt b r1
  have env0 : Env0 P w K mg (hidT s.heap H) callerA [] s H := ⟨rfl, ⟨look, spaces nsG, ⟨mb, spaces nsB, boot⟩, ⟨ml, spaces l1, l2⟩⟩, fun b o e => of_hidT e, Nat.le_of_eq (hidT_size _ _), trivial, fun b hb => absurd (show b ∈ ([] : List Addr) from hb) List.not_mem_nil, held, .of_eq nogen⟩
  have script : SqL K H a (ns.map V.int) := by
    cases kl : K.lookup a with
    | none =>
      refine .inl (.inr ⟨O, ?_⟩)
      rw [← hH]
      unfold scriptTabs
      rw [if_pos rfl, if_pos kl]
    | some o =>
      have e := inK a o kl
      rw [obj] at e
      obtain rfl := Option.some.inj e
      exact .inr ⟨O, vs.toArray, 0, kl, Oc, Odd, Od, by rw [List.size_toArray, lenV]; exact size, by simpa using rel⟩
  have tabs : ∀ p ∈ cs, TabB (hidT s.heap H) mg p.1 p.2 := fun p hp => by
    have at_ := empty p hp
    refine ⟨?_, ?_, fun z => ?_⟩
    · obtain ⟨o, us, file, tf, flags, tg, inF, text, tt, e1, r1, r2, r3, rest⟩ := codes p hp
      refine ⟨o, us, file, tf, flags, tg, inF, text, tt, hid e1 (free e1 (fun vs n y => by rw [r2] at y; cases y) (fun y => ?_)), r1, r2, r3, rest⟩
      rw [r2] at y
      cases y
      simp at r3
    · obtain ⟨bm, ob, b1, b2, b3, b4, b5, b6⟩ := bmod
      refine ⟨bm, ob, b1, b2, fun z => ?_, fun z => ?_, hid b3 (free b3 (fun vs n y => by rw [b6] at y; cases y) (fun y => by rw [b6] at y; cases y)), b4, b5, b6⟩
      · obtain ⟨o, es, ep, e, d, _⟩ := nsG
        rw [z, e] at b3
        rw [Option.some.inj b3, b6] at d
        cases d
      · rw [z, at_] at b3
        rw [← Option.some.inj b3] at b6
        cases b6
    · obtain ⟨o, es, ep, e, d, _⟩ := nsG
      rw [z, at_] at e
      rw [← Option.some.inj e] at d
      cases d
  refine codeAny_mono (F _ H look (spaces nsG) tabs Ht env0 script) fun r s' got => ?_
  rcases r with er | fl
  · exact (noErr H er s' got).elim
  cases fl with
  | ret u =>
    obtain ⟨v, H', os, bare, un, held', rv, qv⟩ := got
    obtain rfl : v = .bl true := qv
    obtain rfl : u = Value.bool true := rv
    have kept : ∀ b o, b ∉ cs.map (·.2) → s.heap.get? b = some o → s'.heap.get? b = some o := fun b o nb e => by
      cases z : H b with
      | none => exact un.keep b o e z (fun y => absurd (show b ∈ ([] : List Addr) from y) List.not_mem_nil) (by simp)
      | some v =>
        rcases Hs z with ⟨r1, _, r3⟩ | ⟨r1, _⟩
        · rw [r3] at z
          obtain ⟨e2, _⟩ := held' b _ (un.frzs b O _ z)
          rw [r1] at e e2
          rw [r1]
          rw [obj] at e
          rw [← Option.some.inj e]
          exact e2
        · exact absurd r1 nb
    have grown : ∀ p ∈ cs, ∃ more : Array Value, s'.heap.get? p.2 = some { cls := .none, data := .fields more } := fun p hp => by
      obtain ⟨more, z⟩ := un.tbls p.2 #[] (Ht p hp)
      exact ⟨_, held' p.2 _ z⟩
    refine ⟨rfl, ⟨fun b o e => ?_, fun b o e => ?_⟩, os, bare⟩
    · by_cases m : b ∈ cs.map (·.2)
      · obtain ⟨p, hp, ep⟩ := List.mem_map.mp m
        obtain ⟨more, hm⟩ := grown p hp
        rw [← ep] at e ⊢
        rw [empty p hp] at e
        obtain rfl := Option.some.inj e
        exact .inr (.inl ⟨((codes p hp).tab (empty p hp)).isCodeTable, rfl, #[], more, rfl, by rw [Array.empty_append]; exact hm⟩)
      · exact .inl (kept b o m e)
    · by_cases m : b ∈ cs.map (·.2)
      · obtain ⟨p, hp, ep⟩ := List.mem_map.mp m
        obtain ⟨more, hm⟩ := grown p hp
        rw [← ep]
        exact ⟨_, hm⟩
      · exact ⟨o, kept b o m e⟩
  | next => exact got.elim
  | brk => exact got.elim
  | cont => exact got.elim
/-- such a law: run at the one place from which it is called -/
theorem walk_hereT {l : PySem.W.OpenLaw} {n : Nat} {q : Program} {loose : List Str} {XP : (Str → Option Value) → Heap → Prop} {YP : World → Heap → Prop} {d : DefRec} {CX : CXT}
    (hn : l.most = some n) (hn2 : n ≤ sizeLine) (hdf : d.params.defaults = [])
    (F : ∀ (w : World) (mg : Str → Option Value) (fa : Addr) (h : Heap), YP w h → h.Ns mainGlobals mg → mg d.name = some (.ref fa) →
      ∃ (K : PySem.W.Frag) (cs : List (Addr × Addr)), K.In h ∧ (∀ p ∈ cs, h.get? p.2 = some { cls := .none, data := .fields #[] }) ∧ (∀ p ∈ cs, K.lookup p.2 = none) ∧ (∀ p ∈ cs, PySem.W.CodeHd h p.1 p.2) ∧
        ∀ (base : Heap) (H : Hp) (s : Shared) (a : Addr) (ns : List Int), K.In base → base.Ns mainGlobals mg → (∀ p ∈ cs, TabB base mg p.1 p.2) → (∀ p ∈ cs, H p.2 = some (.tbl #[])) → ns.length ≤ n → Env0 l.prog w K mg base callerA [] s H → SqL K H a (ns.map V.int) →
        codeAny (model l.prog w) callerA (.call (.ref fa) ⟨[.ref a], []⟩) (CR CX [] l.prog w H s (fun v _ => v = .bl true) (fun _ _ _ => False)) s)
    (hCX : ∀ (H : Hp) (s : Shared) (e : Value) (s' : Shared), CX [] H s (fun _ _ _ => False) e s' → False) :
    PySem.W.WalkO q loose XP YP l.row.toRowW d [] (fun f vs => PySem.call f vs) := by
  refine Att.attach_call hn hdf fun w s₀ s₁ mg mb fa o pm cd doc a vs ns G Y ho hd hcd hmg hobj hints hlen hg => ?_
  obtain ⟨K, cs, KX, h1, h2, h3, hF⟩ := F w mg fa _ Y G.T.g hmg
  exact call_hereT KX G.T.g G.T.b G.T.builtins G.T.nolimit hg h1 h2 h3 G.T.bmain hobj hints (Nat.le_trans hlen hn2) (fun H e s' => hCX H s₁ e s') fun base H hb hbn htb ht e0 hS => hF base H s₁ a ns hb hbn htb ht hlen e0 hS
end
end Kw

set_option maxRecDepth 100000
set_option maxHeartbeats 4000000
namespace Kw
open PySem PySem.Spec PyProof.Rows L2
/-- a def that prints: called where no repr is under way -/
structure FnOkG (P : Program) (w : World) (K : PySem.W.Frag) (mg : Str → Option Value) (base : Heap) (CX : CXT) (k : Nat) (f : Addr) (fd : FuncData) (ps : List Str) (sp : Sp) : Prop where
  len : ∀ vs H Q E, sp vs H Q E → vs.length = ps.length
  run : ∀ (A : Around) (outer : List Env) (s : Shared) (H : Hp) (args : Args) (us : List Value) (vs : List V) (Q : VK) (E : XK), A.guards = some [] → Room k A → Env0 P w K mg base A outer s H → BindsTo s fd args (ps.zip us) → Vals vs us → sp vs H Q E →
    codeAny (model P w) A (.call (.ref f) args) (CR CX outer P w H s Q E) s
section
variable {P : Program} {w : World} {K : PySem.W.Frag} {mg : Str → Option Value} {base : Heap} {x qual : Str} {params : Arguments} {body : List Stmt} {scope : Scope} {dvs : List V} {kws : List (Str × V)} {f : Addr} {fd : FuncData}
theorem FunD.okG {CX : CXT} {N ps : List Str} {k : Nat} {sp : Sp} (D : FunD K x qual params body scope dvs kws f fd) (S : FnScope N ps scope) (len : ∀ vs H Q E, sp vs H Q E → vs.length = ps.length)
    (run : ∀ (cdv : Value) (A : Around) (outer : List Env) (s : Shared) (H : Hp) (vs : List V) (Q : VK) (E : XK), A.guards = some [] → Room k (A.deeper (envOfC qual scope s.heap.objs.size f cdv)) → sp vs H Q E →
      ∃ t, PSs (cxOf CX P w K mg base N qual scope f cdv A outer s H E) body t ∧ t { nx := fun _ H' => Q .non H', rt := Q } (L2.start N vs) H) : FnOkG P w K mg base CX (k + 1) f fd ps sp :=
  ⟨len, fun A outer s H args us vs Q E g hr e0 bd rel h => def_at D S (len vs H Q E h) hr e0 bd rel fun cdv => run cdv A outer s H vs Q E g (hr.deeper _) h⟩
end
section
variable {X : Cx} {CX : CXT} {k : Nat} {f : Addr} {fd : FuncData} {ps : List Str} {sp : Sp} {E : XK} {x : Str} {p pos : Pos} {e : Expr} {es : List Expr} {t : TA}
theorem pe_callG (F : FnOkG X.prog X.w X.K X.mg X.base CX k f fd ps sp) (quiet : X.A.guards = some []) (hr : Room k X.A) (hg : Gl X x) (hm : X.mg x = some (.ref f)) (hk : PySem.W.keepIn X.K (.ref f) = true) (hb : Binds X.K fd ps []) (hx : Passes CX X E)
    (ha : PA X (e :: es) t) (hdb : (x == ("__debug__" : Str)) = false := by decide) (he : starEach (e :: es) X.env = (false, eval e X.env) :: starEach es X.env := by rfl) (hpl : (backTo pos (starEach es X.env)).any (·.1) = false := by rfl) :
    PE X (.Call (.Name x p) (e :: es) [] pos) (tCall sp [] E t) := by
  refine ⟨fun pins s σ H Q I h => ?_⟩
  refine wpAny_Call_Name_kw (ld_glob I hg hm ?_ hdb)
  refine PySem.W.callWith_K (h₀ := X.base) I.ok.mod.kin hk (thn (ha.run pos pins s σ H _ I h) fun us s1 ⟨vs, H1, I1, r, q⟩ => ⟨I1.kIn, ?_⟩) he hpl
  have q : sp vs H1 Q E := by
    have q2 : sp (vs ++ []) H1 Q E := q
    rw [List.append_nil] at q2
    exact q2
  have lu : us.length = ps.length := by rw [← r.length]; exact F.len _ _ _ _ q
  have bd : BindsTo s1 fd ⟨us, []⟩ (ps.zip us) := by
    have := hb s1 us I1.kIn (by rw [List.append_nil]; exact lu)
    rw [List.append_nil] at this
    exact this
  refine wpAny_call (codeAny_mono (F.run X.A X.stack s1 H1 ⟨us, []⟩ us vs Q E quiet hr I1.env0 bd r q) fun r s' hq => ?_)
  rcases r with er | fl
  · exact hx pins σ H1 s1 er s' I1 hq
  cases fl with
  | ret u => exact I1.after hq
  | next => exact hq.elim
  | brk => exact hq.elim
  | cont => exact hq.elim
end
/-! ### comprehensions with two for over lists or tuples that stand -/
section
variable {K : PySem.W.Frag} {a : Addr} {xs : List V}
theorem lc2_inT {g1 : TG} {tt1 : TT} {te : TE} {vs1 : List Nat} {σ2 : L2.St} {H4 : Hp} {D : Addr} {Nx : Hp → Prop} (Pw : Nat → Hp → Prop) (h0 : Pw 0 H4) (hl : ∀ i H, i ≤ xs.length → Pw i H → SqT K H a xs)
    (hs : ∀ j x H, xs[j]? = some x → Pw j H → g1 x (wipe σ2 vs1) H fun σ3 H5 => wipe σ3 vs1 = wipe σ2 vs1 ∧ tt1 σ3 H5 fun b H6 =>
        if b = true then te σ3 H6 fun y H7 => ∃ acc, H7 D = some (.lst acc) ∧ acc.length < sizeLine ∧ Pw (j + 1) (upd H7 D (.lst (acc ++ [y]))) else Pw (j + 1) H6)
    (hd : ∀ H, Pw xs.length H → Nx H) :
    ∃ W1 : Nat → Nat → Hp → Prop, (∃ m, W1 0 m H4) ∧ ∀ j k H, W1 j k H →
        ((Itt K a).stop j H ∧ Nx H) ∨ ((Itt K a).go j H ∧ ∃ Nx1 : Hp → Prop, (∀ H', Nx1 H' → ∃ k', k' < k ∧ W1 (j + 1) k' H') ∧ ∀ x H', (Itt K a).yld j H x H' → g1 x (wipe σ2 vs1) H' fun σ3 H5 => wipe σ3 vs1 = wipe σ2 vs1 ∧ tt1 σ3 H5 fun b H6 =>
          if b = true then te σ3 H6 fun y H7 => ∃ acc, H7 D = some (.lst acc) ∧ acc.length < sizeLine ∧ Nx1 (upd H7 D (.lst (acc ++ [y]))) else Nx1 H6) := by
  refine ⟨fun i m H => m = xs.length - i ∧ i ≤ xs.length ∧ Pw i H, ⟨xs.length, by simp, Nat.zero_le _, h0⟩, ?_⟩
  rintro i m H ⟨rfl, hi, p⟩
  have q := hl i H hi p
  by_cases lt : i < xs.length
  · refine .inr ⟨⟨xs, xs[i], q, by simp [lt]⟩, Pw (i + 1), fun H' p' => ⟨xs.length - (i + 1), by omega, rfl, lt, p'⟩, fun x H' y => ?_⟩
    obtain ⟨e, y⟩ := y
    subst e
    exact hs i x _ (y xs q) p
  · obtain rfl : i = xs.length := by omega
    exact .inl ⟨⟨xs, q, Nat.le_refl _⟩, hd H p⟩
theorem lc2_outT {wi1 : TI} {g g1 : TG} {tt tt1 : TT} {te : TE} {vs vs1 : List Nat} {σ : L2.St} {H1 : Hp} {D : Addr} {Qd : Hp → Prop} (Pv : Nat → Hp → Prop) (h0 : Pv 0 (upd H1 D (.lst []))) (hl : ∀ i H, i ≤ xs.length → Pv i H → SqT K H a xs)
    (hs : ∀ i x H, xs[i]? = some x → Pv i H → ∀ Nx : Hp → Prop, (∀ H', Pv (i + 1) H' → Nx H') → g x (wipe σ vs) H fun σ2 H2 => wipe σ2 vs = wipe σ vs ∧ tt σ2 H2 fun b H3 => if b = true then wi1 σ2 H3 fun J1 H4 => ∃ W1 : Nat → Nat → Hp → Prop, (∃ m, W1 0 m H4) ∧ ∀ j k H, W1 j k H →
        (J1.stop j H ∧ Nx H) ∨ (J1.go j H ∧ ∃ Nx1 : Hp → Prop, (∀ H', Nx1 H' → ∃ k', k' < k ∧ W1 (j + 1) k' H') ∧ ∀ x H', J1.yld j H x H' → g1 x (wipe σ2 vs1) H' fun σ3 H5 => wipe σ3 vs1 = wipe σ2 vs1 ∧ tt1 σ3 H5 fun b H6 =>
          if b = true then te σ3 H6 fun y H7 => ∃ acc, H7 D = some (.lst acc) ∧ acc.length < sizeLine ∧ Nx1 (upd H7 D (.lst (acc ++ [y]))) else Nx1 H6) else Nx H3)
    (hd : ∀ H, Pv xs.length H → Qd H) :
    ∃ W : Nat → Nat → Hp → Prop, (∃ m, W 0 m (upd H1 D (.lst []))) ∧ ∀ i m H, W i m H →
  ((Itt K a).stop i H ∧ Qd H) ∨ ((Itt K a).go i H ∧ ∃ Nx : Hp → Prop, (∀ H', Nx H' → ∃ m', m' < m ∧ W (i + 1) m' H') ∧ ∀ x H', (Itt K a).yld i H x H' → g x (wipe σ vs) H' fun σ2 H2 => wipe σ2 vs = wipe σ vs ∧ tt σ2 H2 fun b H3 =>
    if b = true then wi1 σ2 H3 fun J1 H4 => ∃ W1 : Nat → Nat → Hp → Prop, (∃ m, W1 0 m H4) ∧ ∀ j k H, W1 j k H →
        (J1.stop j H ∧ Nx H) ∨ (J1.go j H ∧ ∃ Nx1 : Hp → Prop, (∀ H', Nx1 H' → ∃ k', k' < k ∧ W1 (j + 1) k' H') ∧ ∀ x H', J1.yld j H x H' → g1 x (wipe σ2 vs1) H' fun σ3 H5 => wipe σ3 vs1 = wipe σ2 vs1 ∧ tt1 σ3 H5 fun b H6 =>
          if b = true then te σ3 H6 fun y H7 => ∃ acc, H7 D = some (.lst acc) ∧ acc.length < sizeLine ∧ Nx1 (upd H7 D (.lst (acc ++ [y]))) else Nx1 H6) else Nx H3) := by
  refine ⟨fun i m H => m = xs.length - i ∧ i ≤ xs.length ∧ Pv i H, ⟨xs.length, by simp, Nat.zero_le _, h0⟩, ?_⟩
  rintro i m H ⟨rfl, hi, p⟩
  have q := hl i H hi p
  by_cases lt : i < xs.length
  · refine .inr ⟨⟨xs, xs[i], q, by simp [lt]⟩, Pv (i + 1), fun H' p' => ⟨xs.length - (i + 1), by omega, rfl, lt, p'⟩, fun x H' y => ?_⟩
    obtain ⟨e, y⟩ := y
    subst e
    exact hs i x _ (y xs q) p _ fun _ z => z
  · obtain rfl : i = xs.length := by omega
    exact .inl ⟨⟨xs, q, Nat.le_refl _⟩, hd H p⟩
end
end Kw

set_option maxRecDepth 100000
set_option maxHeartbeats 8000000
namespace K59
open PySem PySem.Spec PyProof.Rows L2 Kw LamX
/-! ### answers of classes to come: mathematics -/
abbrev EL (ds : List Ent) (c : Nat) : List Nat := (elsOf ds).getD c []
theorem EL_lt {ds : List Ent} {c x : Nat} (h : x ∈ EL ds c) : x < c := elders_below h
theorem EL_trans {ds : List Ent} (ok : DsOk ds) {c y x : Nat} (h1 : y ∈ EL ds c) (h2 : x ∈ EL ds y) : x ∈ EL ds c := elders_trans ok.valid c h1 h2
theorem up_ext {a b : List Nat} (ha : a.Pairwise (· < ·)) (hb : b.Pairwise (· < ·)) (h : ∀ x, x ∈ a ↔ x ∈ b) : a = b := by
  have p : a.Perm b := (List.perm_ext_iff_of_nodup (up_nodup ha) (up_nodup hb)).mpr h
  exact p.eq_of_pairwise (fun x y _ _ h1 h2 => by omega) ha hb
theorem defL_mem {ds : List Ent} {c m x : Nat} (hc : c < ds.length) : x ∈ defL ds c m ↔ (x ∈ EL ds c ∨ x = c) ∧ m ∈ methsOf ds x := by
  unfold defL
  rw [List.mem_filter, kins_els hc, List.mem_append, List.mem_singleton, List.contains_iff_mem]
theorem tops_mem {els : List (List Nat)} {xs : List Nat} {x : Nat} : x ∈ topsL els xs ↔ x ∈ xs ∧ ∀ h ∈ xs, x ∉ els.getD h [] := by
  unfold topsL
  rw [List.mem_filter]
  refine and_congr Iff.rfl ?_
  rw [Bool.not_eq_true', ← Bool.not_eq_true, List.any_eq_true]
  constructor
  · intro z h hh y
    exact z ⟨h, hh, List.contains_iff_mem.mpr y⟩
  · rintro z ⟨h, hh, y⟩
    exact z h hh (List.contains_iff_mem.mp y)
/-- some thing's tops: of a list of any order -/
def upS (n : Nat) (xs : List Nat) : List Nat := (List.range n).filter fun k => xs.contains k
theorem upS_mem {n : Nat} {xs : List Nat} (h : ∀ x ∈ xs, x < n) {x : Nat} : x ∈ upS n xs ↔ x ∈ xs := by
  unfold upS
  rw [List.mem_filter, List.mem_range, List.contains_iff_mem]
  exact ⟨fun z => z.2, fun z => ⟨h x z, z⟩⟩
theorem upS_up {n : Nat} {xs : List Nat} : (upS n xs).Pairwise (· < ·) := List.Pairwise.filter _ List.pairwise_lt_range
def topsG (els : List (List Nat)) (xs : List Nat) : List Nat := (upS els.length xs).filter fun k => !(xs.any fun h => (els.getD h []).contains k)
theorem topsG_mem {els : List (List Nat)} {xs : List Nat} (hx : ∀ x ∈ xs, x < els.length) {x : Nat} : x ∈ topsG els xs ↔ x ∈ xs ∧ ∀ h ∈ xs, x ∉ els.getD h [] := by
  unfold topsG
  rw [List.mem_filter, upS_mem hx]
  refine and_congr Iff.rfl ?_
  rw [Bool.not_eq_true', ← Bool.not_eq_true, List.any_eq_true]
  constructor
  · intro z h hh y
    exact z ⟨h, hh, List.contains_iff_mem.mpr y⟩
  · rintro z ⟨h, hh, y⟩
    exact z h hh (List.contains_iff_mem.mp y)
theorem topsG_up {els : List (List Nat)} {xs : List Nat} : (topsG els xs).Pairwise (· < ·) := List.Pairwise.filter _ upS_up
theorem ans_mem {ds : List Ent} {c m x : Nat} : x ∈ ansL ds c m ↔ x ∈ defL ds c m ∧ ∀ h ∈ defL ds c m, x ∉ EL ds h := tops_mem
theorem ans_up {ds : List Ent} (ok : DsOk ds) {c m : Nat} (hc : c < ds.length) : (ansL ds c m).Pairwise (· < ·) := List.Pairwise.filter _ (defL_up ok hc)
/-- above each one there is a top -/
theorem tops_above {ds : List Ent} (ok : DsOk ds) {xs : List Nat} {n : Nat} (hn : ∀ x ∈ xs, x < n) : ∀ (k x : Nat), n - x ≤ k → x ∈ xs → x ∈ topsL (elsOf ds) xs ∨ ∃ t ∈ topsL (elsOf ds) xs, x ∈ EL ds t
  | 0, x, h, hx => by
    have := hn x hx
    omega
  | k + 1, x, h, hx => by
    by_cases c : x ∈ topsL (elsOf ds) xs
    · exact .inl c
    · have : ∃ h ∈ xs, x ∈ EL ds h := by
        apply Classical.byContradiction
        intro z
        exact c (tops_mem.mpr ⟨hx, fun y hy e => z ⟨y, hy, e⟩⟩)
      obtain ⟨y, hy, e⟩ := this
      have l := EL_lt e
      rcases tops_above ok hn k y (by have := hn x hx; omega) hy with z | ⟨t, ht, z⟩
      · exact .inr ⟨y, z, e⟩
      · exact .inr ⟨t, ht, EL_trans ok z e⟩
/-- the definers among the bases and their elders -/
def lotL (ds : List Ent) (bs : List Nat) (m : Nat) : List Nat := bs.flatMap fun b => defL ds b m
def foundL (ds : List Ent) (bs : List Nat) (m : Nat) : List Nat := bs.flatMap fun b => ansL ds b m
def comeL (ds : List Ent) (bs : List Nat) (m : Nat) : List Nat := topsL (elsOf ds) (upS ds.length (foundL ds bs m))
theorem lot_lt {ds : List Ent} (ok : DsOk ds) {bs : List Nat} {m : Nat} (hb : ∀ b ∈ bs, b < ds.length) : ∀ x ∈ lotL ds bs m, x < ds.length := fun x hx => by
  obtain ⟨b, h1, h2⟩ := List.mem_flatMap.mp hx
  exact defL_lt ok (hb b h1) x h2
theorem found_sub {ds : List Ent} {bs : List Nat} {m : Nat} : ∀ x ∈ foundL ds bs m, x ∈ lotL ds bs m := fun x hx => by
  obtain ⟨b, h1, h2⟩ := List.mem_flatMap.mp hx
  exact List.mem_flatMap.mpr ⟨b, h1, ansL_mem h2⟩
theorem come_up {ds : List Ent} {bs : List Nat} {m : Nat} : (comeL ds bs m).Pairwise (· < ·) := List.Pairwise.filter _ upS_up
theorem come_mem {ds : List Ent} (ok : DsOk ds) {bs : List Nat} {m : Nat} (hb : ∀ b ∈ bs, b < ds.length) {x : Nat} : x ∈ comeL ds bs m ↔ x ∈ lotL ds bs m ∧ ∀ h ∈ lotL ds bs m, x ∉ EL ds h := by
  have fl : ∀ x ∈ foundL ds bs m, x < ds.length := fun x hx => lot_lt ok hb x (found_sub x hx)
  unfold comeL
  rw [tops_mem, upS_mem fl]
  have e : (∀ h ∈ upS ds.length (foundL ds bs m), x ∉ (elsOf ds).getD h []) ↔ ∀ h ∈ foundL ds bs m, x ∉ EL ds h := ⟨fun z h hh => z h ((upS_mem fl).mpr hh), fun z h hh => z h ((upS_mem fl).mp hh)⟩
  rw [e]
  constructor
  · rintro ⟨h1, h2⟩
    refine ⟨found_sub x h1, fun h hh y => ?_⟩
    obtain ⟨b, hb1, hb2⟩ := List.mem_flatMap.mp hh
    rcases tops_above ok (fun z hz => defL_lt ok (hb b hb1) z hz) ds.length h (by omega) hb2 with z | ⟨t, ht, z⟩
    · exact h2 h (List.mem_flatMap.mpr ⟨b, hb1, z⟩) y
    · exact h2 t (List.mem_flatMap.mpr ⟨b, hb1, ht⟩) (EL_trans ok z y)
  · rintro ⟨h1, h2⟩
    obtain ⟨b, hb1, hb2⟩ := List.mem_flatMap.mp h1
    exact ⟨List.mem_flatMap.mpr ⟨b, hb1, ans_mem.mpr ⟨hb2, fun h hh => h2 h (List.mem_flatMap.mpr ⟨b, hb1, hh⟩)⟩⟩, fun h hh => h2 h (found_sub h hh)⟩
theorem come_tops {ds : List Ent} (ok : DsOk ds) {bs : List Nat} {m : Nat} (hb : ∀ b ∈ bs, b < ds.length) : comeL ds bs m = topsG (elsOf ds) (lotL ds bs m) := by
  refine up_ext come_up topsG_up fun x => ?_
  rw [come_mem ok hb, topsG_mem (fun x hx => by rw [elsOf_len]; exact lot_lt ok hb x hx)]
/-! a class more -/
theorem EL_more {ds : List Ent} {es : List Ent} {c : Nat} (hc : c < ds.length) : EL (ds ++ es) c = EL ds c := by
  have h1 := elders_pre_all ((ds ++ es).map (·.1)) ds.length
  have h2 : ((ds ++ es).map (·.1)).take ds.length = ds.map (·.1) := by
    rw [List.map_append, List.take_append_of_le_length (by rw [List.length_map]; exact Nat.le_refl _), List.take_of_length_le (by rw [List.length_map]; exact Nat.le_refl _)]
  rw [h2] at h1
  show (elders ((ds ++ es).map (·.1))).getD c [] = (elders (ds.map (·.1))).getD c []
  rw [← h1, List.getD_eq_getElem?_getD, List.getD_eq_getElem?_getD, List.getElem?_take, if_pos hc]
theorem EL_new {ds : List Ent} {d : Ent} (ok : DsOk (ds ++ [d])) {x : Nat} (hb : ∀ b ∈ d.1, b < ds.length) : x ∈ EL (ds ++ [d]) ds.length ↔ ∃ b ∈ d.1, x = b ∨ x ∈ EL ds b := by
  have e : ((ds ++ [d]).map (·.1))[ds.length]? = some d.1 := by
    rw [List.getElem?_map, List.getElem?_append_right (Nat.le_refl _), Nat.sub_self]
    rfl
  show x ∈ (elders ((ds ++ [d]).map (·.1))).getD ds.length [] ↔ _
  rw [elders_mem ok.valid e x]
  refine ⟨fun ⟨b, h1, h2⟩ => ⟨b, h1, h2.imp id fun z => ?_⟩, fun ⟨b, h1, h2⟩ => ⟨b, h1, h2.imp id fun z => ?_⟩⟩
  · have := EL_more (es := [d]) (hb b h1)
    rw [← this]
    exact z
  · have := EL_more (es := [d]) (hb b h1)
    rw [← this] at z
    exact z
theorem meths_more {ds es : List Ent} {c : Nat} (hc : c < ds.length) : methsOf (ds ++ es) c = methsOf ds c := by
  unfold methsOf
  rw [List.getD_eq_getElem?_getD, List.getD_eq_getElem?_getD, List.getElem?_append_left hc]
theorem meths_new {ds : List Ent} {d : Ent} : methsOf (ds ++ [d]) ds.length = d.2.2 := by
  unfold methsOf
  rw [List.getD_eq_getElem?_getD, List.getElem?_append_right (Nat.le_refl _), Nat.sub_self]
  rfl
theorem def_new {ds : List Ent} {d : Ent} (ok : DsOk (ds ++ [d])) {m : Nat} (hb : ∀ b ∈ d.1, b < ds.length) (hm : m ∉ d.2.2) {x : Nat} : x ∈ defL (ds ++ [d]) ds.length m ↔ x ∈ lotL ds d.1 m := by
  have ll : (ds ++ [d]).length = ds.length + 1 := by rw [List.length_append, List.length_singleton]
  rw [defL_mem (by omega), EL_new ok hb]
  unfold lotL
  rw [List.mem_flatMap]
  constructor
  · rintro ⟨h1 | h1, h2⟩
    · obtain ⟨b, hb1, hb2⟩ := h1
      have hx : x < ds.length := by
        have := hb b hb1
        rcases hb2 with z | z
        · omega
        · have := EL_lt z
          omega
      rw [meths_more hx] at h2
      exact ⟨b, hb1, (defL_mem (hb b hb1)).mpr ⟨hb2.symm, h2⟩⟩
    · rw [h1, meths_new] at h2
      exact absurd h2 hm
  · rintro ⟨b, hb1, hb2⟩
    have hx := fun (okd : DsOk ds) => defL_lt okd (hb b hb1) x hb2
    obtain ⟨h1, h2⟩ := (defL_mem (hb b hb1)).mp hb2
    have hx : x < ds.length := by
      have := hb b hb1
      rcases h1 with z | z
      · have := EL_lt z
        omega
      · omega
    exact ⟨.inl ⟨b, hb1, h1.symm⟩, by rw [meths_more hx]; exact h2⟩
theorem DsOk.init {ds es : List Ent} (ok : DsOk (ds ++ es)) : DsOk ds := fun i d e => ok i d (by rw [List.getElem?_append_left (List.getElem?_eq_some_iff.mp e).1]; exact e)
theorem ans_new {ds : List Ent} {d : Ent} (ok : DsOk (ds ++ [d])) {m : Nat} (hb : ∀ b ∈ d.1, b < ds.length) (hm : m ∉ d.2.2) : ansL (ds ++ [d]) ds.length m = comeL ds d.1 m := by
  have ll : (ds ++ [d]).length = ds.length + 1 := by rw [List.length_append, List.length_singleton]
  have okd := ok.init
  refine up_ext (ans_up ok (by omega)) come_up fun x => ?_
  rw [ans_mem, come_mem okd hb, def_new ok hb hm]
  refine and_congr Iff.rfl ⟨fun z h hh => ?_, fun z h hh => ?_⟩
  · have := z h ((def_new ok hb hm).mpr hh)
    rw [EL_more (lot_lt okd hb h hh)] at this
    exact this
  · have hh := (def_new ok hb hm).mp hh
    rw [EL_more (lot_lt okd hb h hh)]
    exact z h hh
/-! two definers that are on no line, or none such -/
theorem chain_one {ds es : List Ent} (ok : DsOk (ds ++ es)) {m : Nat} (hno : ∀ a ∈ rowL ds m, ∀ b ∈ rowL ds m, condO ds a b = false) (hes : ∀ i, ds.length ≤ i → i < (ds ++ es).length → m ∉ methsOf (ds ++ es) i) {c : Nat} (hc : c < (ds ++ es).length) : (ansL (ds ++ es) c m).length ≤ 1 := by
  have up := ans_up ok (c := c) (m := m) hc
  have inn : ∀ x ∈ ansL (ds ++ es) c m, x < ds.length ∧ m ∈ methsOf ds x := fun x hx => by
    have h1 := ansL_mem hx
    have h2 := defL_lt ok hc x h1
    have h3 := ((defL_mem hc).mp h1).2
    have h4 : x < ds.length := by
      apply Classical.byContradiction
      intro z
      exact hes x (by omega) h2 h3
    rw [meths_more h4] at h3
    exact ⟨h4, h3⟩
  have same : ∀ x ∈ ansL (ds ++ es) c m, ∀ y ∈ ansL (ds ++ es) c m, ¬ x < y := fun x hx y hy l => by
    obtain ⟨x1, x2⟩ := inn x hx
    obtain ⟨y1, y2⟩ := inn y hy
    have r : ∀ {z : Nat}, z < ds.length → m ∈ methsOf ds z → z ∈ rowL ds m := fun h1 h2 => List.mem_filter.mpr ⟨List.mem_range.mpr h1, List.contains_iff_mem.mpr h2⟩
    have k := hno x (r x1 x2) y (r y1 y2)
    unfold condO at k
    rw [decide_eq_true l, Bool.true_and, Bool.not_eq_false', List.contains_iff_mem, kins_els y1, List.mem_append, List.mem_singleton] at k
    rcases k with k | k
    · refine (ans_mem.mp hx).2 y (ansL_mem hy) ?_
      rw [EL_more y1]
      exact k
    · omega
  match h : ansL (ds ++ es) c m with
  | [] => exact Nat.zero_le _
  | [_] => exact Nat.le_refl _
  | x :: y :: r =>
    rw [h] at up same
    exact absurd (List.rel_of_pairwise_cons up List.mem_cons_self) (same x List.mem_cons_self y (List.mem_cons_of_mem _ List.mem_cons_self))
theorem off_two {ds : List Ent} (ok : DsOk (ds ++ [(([b, a], 0, []) : Ent)])) {m : Nat} (hb : b < ds.length) (ma : m ∈ methsOf ds a) (mb : m ∈ methsOf ds b) (h : condO ds a b = true) : ansL (ds ++ [(([b, a], 0, []) : Ent)]) ds.length m = [a, b] := by
  obtain ⟨ab, no⟩ := condO_iff.mp h
  have okd := ok.init
  have nk : a ∉ EL ds b := fun z => by
    rw [kins_els hb] at no
    have : ((EL ds b) ++ [b]).contains a = true := List.contains_iff_mem.mpr (List.mem_append_left _ z)
    rw [this] at no
    cases no
  have hbs : ∀ x ∈ [b, a], x < ds.length := fun x hx => by
    rcases List.mem_cons.mp hx with rfl | hx
    · exact hb
    · rw [List.mem_singleton.mp hx]
      omega
  rw [ans_new ok hbs (by show m ∉ ([] : List Nat); exact List.not_mem_nil)]
  refine up_ext come_up (List.Pairwise.cons (fun y hy => by rw [List.mem_singleton.mp hy]; exact ab) (List.pairwise_singleton _ _)) fun x => ?_
  rw [come_mem okd hbs]
  have inL : ∀ {y : Nat}, y ∈ lotL ds [b, a] m ↔ (y ∈ defL ds b m ∨ y ∈ defL ds a m) := fun {y} => by
    unfold lotL
    rw [List.flatMap_cons, List.flatMap_cons, List.flatMap_nil, List.append_nil, List.mem_append]
  have ha : a < ds.length := by omega
  have da : a ∈ lotL ds [b, a] m := inL.mpr (.inr ((defL_mem ha).mpr ⟨.inr rfl, ma⟩))
  have db : b ∈ lotL ds [b, a] m := inL.mpr (.inl ((defL_mem hb).mpr ⟨.inr rfl, mb⟩))
  constructor
  · rintro ⟨h1, h2⟩
    rcases inL.mp h1 with z | z
    · rcases ((defL_mem hb).mp z).1 with q | q
      · exact absurd q (h2 b db)
      · rw [q]
        exact List.mem_cons_of_mem _ List.mem_cons_self
    · rcases ((defL_mem ha).mp z).1 with q | q
      · exact absurd q (h2 a da)
      · rw [q]
        exact List.mem_cons_self
  · intro hx
    rcases List.mem_cons.mp hx with rfl | hx
    · refine ⟨da, fun y hy z => ?_⟩
      rcases inL.mp hy with q | q
      · rcases ((defL_mem hb).mp q).1 with q | q
        · exact nk (EL_trans okd q z)
        · rw [q] at z
          exact nk z
      · have l := EL_lt z
        rcases ((defL_mem ha).mp q).1 with q | q
        · have := EL_lt q
          omega
        · omega
    · rw [List.mem_singleton.mp hx]
      refine ⟨db, fun y hy z => ?_⟩
      have l := EL_lt z
      rcases inL.mp hy with q | q
      · rcases ((defL_mem hb).mp q).1 with q | q
        · have := EL_lt q
          omega
        · omega
      · rcases ((defL_mem ha).mp q).1 with q | q
        · have := EL_lt q
          omega
        · omega
/-! the parts of a row of numbers -/
def partsL : Nat → List (List Nat)
  | 0 => [[]]
  | n + 1 => partsL n ++ (partsL n).map fun p => p ++ [n]
theorem parts_ok : ∀ {n : Nat}, ∀ p ∈ partsL n, p.Pairwise (· < ·) ∧ ∀ x ∈ p, x < n
  | 0, p, hp => by
    rw [List.mem_singleton.mp hp]
    exact ⟨.nil, fun x hx => by cases hx⟩
  | n + 1, p, hp => by
    rcases List.mem_append.mp hp with h | h
    · obtain ⟨h1, h2⟩ := parts_ok p h
      exact ⟨h1, fun x hx => by have := h2 x hx; omega⟩
    · obtain ⟨q, hq, rfl⟩ := List.mem_map.mp h
      obtain ⟨h1, h2⟩ := parts_ok q hq
      refine ⟨List.pairwise_append.mpr ⟨h1, List.pairwise_singleton _ _, fun x hx y hy => ?_⟩, fun x hx => ?_⟩
      · rw [List.mem_singleton.mp hy]
        exact h2 x hx
      · rcases List.mem_append.mp hx with hx | hx
        · have := h2 x hx
          omega
        · rw [List.mem_singleton.mp hx]
          omega
theorem parts_len : ∀ {n : Nat}, (partsL n).length = 2 ^ n
  | 0 => rfl
  | n + 1 => by
    show (partsL n ++ (partsL n).map fun p => p ++ [n]).length = _
    rw [List.length_append, List.length_map, parts_len, Nat.pow_succ]
    omega
end K59

set_option maxRecDepth 100000
set_option maxHeartbeats 8000000
namespace K59
open PySem PySem.Spec PyProof.Rows L2 Kw
section
variable {P : Program} {w : World} {K : PySem.W.Frag} {mg : Str → Option Value} {base : Heap} {f fD fL fA fX fY C Cn Ct : Addr} {fd fdD fdL fdA fdX fdY : FuncData}
def spLastL (C : Addr) : Sp := fun vs H Q _ => ∃ (p r : Addr) (ds : List Ent) (xs : List Nat), vs = [.ref p, .ref r] ∧ WorldAt H p C ds ∧ DsOk ds ∧ H r = some (.lst (xs.map natV)) ∧ (∀ x ∈ xs, x < ds.length) ∧ ds.length ≤ 12 ∧ xs.length ≤ 12 ∧
  ∀ t H', Same H H' → H' t = some (.tup ((topsL (elsOf ds) xs).map natV)) → Q (.ref t) H'
theorem sc_lastL : FnScope ["world", "classes", "k", "heir"] ["world", "classes"] (defScope (top 26)) := ⟨rfl, rfl, rfl, by decide +kernel, rfl, by decide +kernel, by decide +kernel⟩
theorem ok_lastL (F : FnP K "last_heirs" 26 f fd) (B : Fr mg) (gAny : mg "any" = none) (TC : ClsWorld K mg C) : FnOk P w K mg base CX0 1 f fd ["world", "classes"] (spLastL C) := by
  refine F.ok sc_lastL (fun vs H Q E h => ?_) (fun cdv A outer s H vs Q E hr h => ?_)
  · obtain ⟨p, r, ds, xs, rfl, _⟩ := h
    rfl
  · obtain ⟨p, r, ds, xs, rfl, hw, ok, hR, hx, h12, x12, k⟩ := h
    refine ⟨_, PSs.nox (pss_one (ps_ret (pe_callTy (T := "tuple") (r := rTupOf K) (call_tup (X := _)) (by rfl) B.tuple (by decide +kernel) (pa_cons
        (pe_lc (own := [("k", 2)]) (g := gName 2) (tt := tNot (tB (tCB (rAny K) (tCons (tLc (iList K (tVar 1)) (gName 3) tYes (tOp (rIn K false) (tVar 2) (tOp (rIxT K) (tFld K (tVar 0) "elders") (tVar 3))) (List.map (fun x => x.snd) [("heir", 3)])) tNil)))) (te := tVar 2) rfl sc_lastL.nd (pi_list (pv 1)) (blkOk_by (N := ["world", "classes", "k", "heir"]) (sc := defScope (top 26)) (by decide +kernel))
          (fun _ _ _ _ _ => pg_name (i := 2) sc_lastL.nd rfl (Or.inr rfl)) (fun _ _ _ _ _ => ?tt) (fun _ _ _ _ _ => pv 2)) pa_nil)))), ?_⟩
    case tt =>
      refine pts_one (pt_not (pt_val (pe_callB (id := "any") (r := rAny K) (cr_any rfl) (by rfl) gAny (by decide +kernel) (pa_cons (pe_lc (own := [("heir", 3)]) (g := gName 3) (tt := tYes) (te := tOp (rIn K false) (tVar 2) (tOp (rIxT K) (tFld K (tVar 0) "elders") (tVar 3))) rfl sc_lastL.nd (pi_list (pv 1)) (blkOk_by (by rfl))
          (fun _ _ _ _ _ => pg_name (i := 3) sc_lastL.nd rfl (Or.inl rfl)) (fun _ _ _ _ _ => pts_nil) (fun _ _ _ _ _ => ?te)) pa_nil))))
      exact pe_cmpR (r := rIn K false) op_in_seq (pv 2) (pe_ix (r := rIxT K) ix_tup (pe_fld (pv 0) rfl) (pv 3) (fun _ _ => rfl)) (by rfl)
    refine ⟨_, rfl, r, rfl, ⟨_, SqL.of hR⟩, fun D hD => lc_list (K := K) (a := r) (xs := xs.map natV) (fun j H' => Same H H' ∧ H' D = some (.lst (((xs.take j).filter fun k => !(xs.any fun h => ((elsOf ds).getD h []).contains k)).map natV))) ⟨same_new hD, upd_same⟩ (fun j H' _ z => SqL.of (z.1 _ _ hR)) ?_ ?_⟩
    · rintro j v H2 hj ⟨s2, hD2⟩
      rw [List.getElem?_map] at hj
      obtain ⟨x, hxx, rfl⟩ := Option.map_eq_some_iff.mp hj
      refine ⟨rfl, _, rfl, r, rfl, ⟨_, SqL.of (s2 _ _ hR)⟩, fun D2 hD2' => lc_list (K := K) (a := r) (xs := xs.map natV) (fun j H' => Same H2 H' ∧ H' D2 = some (.lst (((xs.take j).map fun h => ((elsOf ds).getD h []).contains x).map V.bl))) ⟨same_new hD2', upd_same⟩ (fun j H' _ z => SqL.of (z.1 _ _ (s2 _ _ hR))) ?_ ?_⟩
      · rintro m v H3 hm ⟨s3, hD3⟩
        rw [List.getElem?_map] at hm
        obtain ⟨y, hy, rfl⟩ := Option.map_eq_some_iff.mp hm
        have yl := hx y (List.mem_of_getElem? hy)
        obtain ⟨dx, fs, ae, es, t1, p1, p2, p3, p4, p5⟩ := ((hw.mono s2).mono s3).elder yl
        refine ⟨rfl, _, rfl, _, rfl, p, C, dx, _, _, rfl, p1, TC.cl, TC.no _ (List.mem_of_getElem? (i := 4) rfl), p2, _, rfl, ae, es, (y : Int), _, rfl, rfl, SqT.of p3, atI_nat p4, t1, _, rfl, .inr (SqT.of p5), rfl, flat_nats _, ?_⟩
        have ein : inV (natV x) (((elsOf ds).getD y []).map natV) = ((elsOf ds).getD y []).contains x := inV_nat _ _
        refine ⟨_, hD3, ?_, same_upd s3 hD2', ?_⟩
        · rw [List.length_map, List.length_map, List.length_take]
          show _ < 2 ^ 24
          omega
        · rw [upd_same, List.take_add_one, hy, Option.toList_some, List.map_append, List.map_append]
          show some (HO.lst (_ ++ [V.bl (inV (natV x) (((elsOf ds).getD y []).map natV))])) = _
          rw [ein]
          rfl
      · rintro H3 ⟨s3, hD3⟩
        rw [List.length_map, List.take_length] at hD3
        refine ⟨D2, _, rfl, SqL.of hD3, _, rfl, ?_⟩
        have e : (!((xs.map fun h => ((elsOf ds).getD h []).contains x).any id)) = !(xs.any fun h => ((elsOf ds).getD h []).contains x) := by
          rw [List.any_map]
          rfl
        show (if (!((xs.map fun h => ((elsOf ds).getD h []).contains x).any id)) = true then _ else _)
        rw [e]
        have st := take_filterN (p := fun k => !(xs.any fun h => ((elsOf ds).getD h []).contains k)) hxx
        have hDD := s3 _ _ hD2
        cases hb : xs.any fun h => ((elsOf ds).getD h []).contains x with
        | false =>
          rw [hb, if_pos (show (!false) = true from rfl)] at st
          refine iteT' rfl ⟨_, rfl, _, hDD, ?_, same_upd (s2.trans s3) hD, by rw [st, List.map_append, upd_same]; rfl⟩
          rw [List.length_map]
          refine Nat.lt_of_le_of_lt (List.length_filter_le _ _) ?_
          rw [List.length_take]
          show _ < 2 ^ 24
          omega
        | true =>
          rw [hb, if_neg (show ¬ (!true) = true from fun z => by cases z), List.append_nil] at st
          exact iteF' rfl ⟨s2.trans s3, by rw [st]; exact hDD⟩
    · rintro H2 ⟨s2, hD2⟩
      rw [List.length_map, List.take_length] at hD2
      exact tup_q (.inl hD2) fun t H4 s4 ht => k t H4 (s2.trans s4) ht
def spTopsG : Sp := fun vs H Q _ => ∃ (a r : Addr) (us : List V) (els : List (List Nat)) (xs : List Nat), vs = [.ref a, .ref r] ∧ H a = some (.lst us) ∧ ListsAt H us els ∧ H r = some (.lst (xs.map natV)) ∧ (∀ x ∈ xs, x < els.length) ∧ xs.length ≤ 60 ∧ els.length ≤ 12 ∧
  ∀ D H', Same H H' → H' D = some (.lst ((topsG els xs).map natV)) → Q (.ref D) H'
theorem sc_topsG : FnScope ["_law_elders_here", "_law_lot", "_law_c", "_law_one"] ["_law_elders_here", "_law_lot"] (defScope (top 43)) := ⟨rfl, rfl, rfl, by decide +kernel, rfl, by decide +kernel, by decide +kernel⟩
theorem ok_topsG (F : FnP K "_law_tops" 43 f fd) (B : Fr mg) : FnOk P w K mg base CX0 1 f fd ["_law_elders_here", "_law_lot"] spTopsG := by
  refine F.ok sc_topsG (fun vs H Q E h => ?_) (fun cdv A outer s H vs Q E hr h => ?_)
  · obtain ⟨a, r, us, els, xs, rfl, _⟩ := h
    rfl
  · obtain ⟨a, r, us, els, xs, rfl, hA, hL, hR, hx, x12, e12, k⟩ := h
    refine ⟨_, PSs.nox (pss_one (ps_ret (pe_lc (own := [("_law_c", 2)]) (g := gName 2) (tt := tNot (tTru K (tLc (iList K (tVar 1)) (gName 3) (tTest (tOp (rIn K false) (tVar 2) (tOp (rIxL K) (tVar 0) (tVar 3)))) (tVar 3) (List.map (fun x => x.snd) [("_law_one", 3)])))) (te := tVar 2) rfl sc_topsG.nd
          (pi_list (pe_callB (cr_sortedSet rfl) (by rfl) B.sorted (by decide +kernel) (pa_cons (pe_callTy (T := "set") (r := rSetSI K w) (call_setSI (X := _) rfl) (by rfl) B.set (by decide +kernel) (pa_cons (pv 1) pa_nil)) pa_nil))) (blkOk_by (N := ["_law_elders_here", "_law_lot", "_law_c", "_law_one"]) (sc := defScope (top 43)) (by decide +kernel))
          (fun _ _ _ _ _ => pg_name (i := 2) sc_topsG.nd rfl (Or.inr rfl))
          (fun _ _ _ _ _ => ?tt)
          (fun _ _ _ _ _ => pv 2)))), ?_⟩
    case tt => exact pts_one (pt_not (pt_tru (pe_lc (own := [("_law_one", 3)]) (g := gName 3) (te := tVar 3) rfl sc_topsG.nd (pi_list (pv 1)) (blkOk_by (by rfl)) (fun _ _ _ _ _ => pg_name (i := 3) sc_topsG.nd rfl (Or.inl rfl)) (fun _ _ _ _ _ => pts_one (pt_cmpR (r := rIn K false) op_in_seq (pv 2) (pe_ix (r := rIxL K) ix_list (pv 0) (pv 3) (fun _ _ => rfl)) (by rfl))) (fun _ _ _ _ _ => pv 3)) (by intro _; rfl)))
    refine ⟨_, rfl, r, xs.map (fun (n : Nat) => (n : Int)), rfl, .inl ?_, ?_, fun S c hS hc => ?_⟩
    · rw [List.map_map]
      exact SqL.of hR
    · rw [List.length_map]
      omega
    rw [List.length_map] at hc
    have sS := same_new (o := SetO w S (fun j => decide (j ∈ xs.map (fun (n : Nat) => (n : Int)))) c) hS
    refine ⟨S, _, c, rfl, upd_same, by omega, fun ns L asc hns hlen hL2 => ?_⟩
    generalize hys : upS els.length xs = ys at *
    have yup : ys.Pairwise (· < ·) := by rw [← hys]; exact upS_up
    have ymem : ∀ x, x ∈ ys ↔ x ∈ xs := fun x => by rw [← hys]; exact upS_mem hx
    have ylen : ys.length ≤ 12 := by
      rw [← hys]
      unfold upS
      refine Nat.le_trans (List.length_filter_le _ _) ?_
      rw [List.length_range]
      exact e12
    have ens : ns.map V.int = ys.map natV := asc_one asc yup fun k => by
      rw [hns k, decide_eq_true_iff, List.mem_map]
      exact ⟨fun ⟨n, hn, e⟩ => ⟨n, (ymem n).mpr hn, e.symm⟩, fun ⟨n, hn, e⟩ => ⟨n, (ymem n).mp hn, e.symm⟩⟩
    have sL := sS.trans (same_new (o := .lst (ns.map V.int)) hL2)
    rw [ens] at sL ⊢
    have hLL : upd (upd H S (SetO w S (fun j => decide (j ∈ xs.map (fun (n : Nat) => (n : Int)))) c)) L (.lst (ys.map natV)) L = some (.lst (ys.map natV)) := upd_same
    generalize hG : upd (upd H S (SetO w S (fun j => decide (j ∈ xs.map (fun (n : Nat) => (n : Int)))) c)) L (.lst (ys.map natV)) = G at sL hLL ⊢
    refine ⟨L, rfl, ⟨_, SqL.of hLL⟩, fun D hD => lc_list (K := K) (a := L) (xs := ys.map natV) (fun j H' => Same G H' ∧ H' D = some (.lst (((ys.take j).filter fun k => !(xs.any fun h => (els.getD h []).contains k)).map natV))) ⟨same_new hD, upd_same⟩ (fun j H' _ z => SqL.of (z.1 _ _ hLL)) ?_ ?_⟩
    · rintro j v H2 hj ⟨s2, hD2⟩
      rw [List.getElem?_map] at hj
      obtain ⟨x, hxx, rfl⟩ := Option.map_eq_some_iff.mp hj
      have s02 := sL.trans s2
      refine ⟨rfl, _, rfl, r, rfl, ⟨_, SqL.of (s02 _ _ hR)⟩, fun D2 hD2' => lc_list (K := K) (a := r) (xs := xs.map natV) (fun j H' => Same H2 H' ∧ H' D2 = some (.lst (((xs.take j).filter fun h => (els.getD h []).contains x).map natV))) ⟨same_new hD2', upd_same⟩ (fun j H' _ z => SqL.of (z.1 _ _ (s02 _ _ hR))) ?_ ?_⟩
      · rintro m v H3 hm ⟨s3, hD3⟩
        rw [List.getElem?_map] at hm
        obtain ⟨y, hy, rfl⟩ := Option.map_eq_some_iff.mp hm
        have s03 := s02.trans s3
        have yl := hx y (List.mem_of_getElem? hy)
        obtain ⟨krow, hk⟩ : ∃ krow, els[y]? = some krow := ⟨_, List.getElem?_eq_getElem yl⟩
        have hgd : els.getD y [] = krow := by
          rw [List.getD_eq_getElem?_getD, hk]
          rfl
        obtain ⟨kt, ekt, hkt⟩ := hL.get hk
        refine ⟨rfl, _, rfl, _, rfl, _, rfl, a, us, (y : Int), _, rfl, rfl, SqL.of (s03 _ _ hA), atI_nat ekt, kt, _, rfl, .inl (SqL.of (s03 _ _ hkt)), rfl, flat_nats krow, _, rfl, ?_⟩
        have ein : inV (natV x) (krow.map natV) = krow.contains x := inV_nat _ _
        show (if inV (natV x) (krow.map natV) = true then _ else _)
        rw [ein]
        have st := take_filterN (p := fun h => (els.getD h []).contains x) hy
        simp only [hgd] at st
        cases hb : krow.contains x with
        | true =>
          rw [hb, if_pos rfl] at st
          refine iteT' rfl ⟨_, rfl, _, hD3, ?_, same_upd s3 hD2', by rw [st, List.map_append, upd_same]; rfl⟩
          rw [List.length_map]
          refine Nat.lt_of_le_of_lt (List.length_filter_le _ _) ?_
          rw [List.length_take]
          show _ < 2 ^ 24
          omega
        | false =>
          rw [hb, if_neg (by decide), List.append_nil] at st
          exact iteF' rfl ⟨s3, by rw [st]; exact hD3⟩
      · rintro H3 ⟨s3, hD3⟩
        rw [List.length_map, List.take_length] at hD3
        refine ⟨_, .inl ⟨_, SqL.of hD3, rfl⟩, ?_⟩
        have hDD := s3 _ _ hD2
        have e : (!(!((xs.filter fun h => (els.getD h []).contains x).map natV).isEmpty)) = !(xs.any fun h => (els.getD h []).contains x) := by
          congr 1
          rw [Bool.eq_iff_iff, List.any_eq_true]
          constructor
          · intro z
            cases q : xs.filter fun h => (els.getD h []).contains x with
            | nil =>
              rw [q] at z
              cases z
            | cons y r =>
              have : y ∈ xs.filter fun h => (els.getD h []).contains x := by rw [q]; exact List.mem_cons_self
              obtain ⟨h1, h2⟩ := List.mem_filter.mp this
              exact ⟨y, h1, h2⟩
          · rintro ⟨y, h1, h2⟩
            have : y ∈ xs.filter fun h => (els.getD h []).contains x := List.mem_filter.mpr ⟨h1, h2⟩
            cases q : xs.filter fun h => (els.getD h []).contains x with
            | nil =>
              rw [q] at this
              cases this
            | cons y r => rfl
        show (if (!(!((xs.filter fun h => (els.getD h []).contains x).map natV).isEmpty)) = true then _ else _)
        rw [e]
        have st := take_filterN (p := fun k => !(xs.any fun h => (els.getD h []).contains k)) hxx
        cases hb : xs.any fun h => (els.getD h []).contains x with
        | false =>
          rw [hb, if_pos (show (!false) = true from rfl)] at st
          refine iteT' rfl ⟨_, rfl, _, hDD, ?_, same_upd (s2.trans s3) hD, by rw [st, List.map_append, upd_same]; rfl⟩
          rw [List.length_map]
          refine Nat.lt_of_le_of_lt (List.length_filter_le _ _) ?_
          rw [List.length_take]
          show _ < 2 ^ 24
          omega
        | true =>
          rw [hb, if_neg (show ¬ (!true) = true from fun z => by cases z), List.append_nil] at st
          exact iteF' rfl ⟨s2.trans s3, by rw [st]; exact hDD⟩
    · rintro H2 ⟨s2, hD2⟩
      rw [List.length_map, List.take_length] at hD2
      refine k D H2 (sL.trans s2) ?_
      unfold topsG
      rw [hys]
      exact hD2
end
end K59

set_option maxRecDepth 100000
set_option maxHeartbeats 8000000
namespace K59
open PySem PySem.Spec PyProof.Rows L2 Kw
theorem found_len {ds : List Ent} (ok : DsOk ds) (h12 : ds.length ≤ 12) {m : Nat} : ∀ {bs : List Nat}, (∀ b ∈ bs, b < ds.length) → (foundL ds bs m).length ≤ bs.length * 12
  | [], _ => Nat.zero_le _
  | b :: r, h => by
    have h1 := found_len ok h12 (m := m) (bs := r) fun c hc => h c (List.mem_cons_of_mem _ hc)
    have h2 : (ansL ds b m).length ≤ 12 := Nat.le_trans ansL_len (defL_len ok (h b List.mem_cons_self) h12)
    show ((b :: r).flatMap fun b => ansL ds b m).length ≤ _
    rw [List.flatMap_cons, List.length_append, List.length_cons, Nat.succ_mul]
    have h1 : (r.flatMap fun b => ansL ds b m).length ≤ r.length * 12 := h1
    omega
theorem found_take {ds : List Ent} {bs : List Nat} {m i x : Nat} (h : bs[i]? = some x) : foundL ds (bs.take (i + 1)) m = foundL ds (bs.take i) m ++ ansL ds x m := by
  unfold foundL
  rw [List.take_add_one, h, Option.toList_some, List.flatMap_append, List.flatMap_cons, List.flatMap_nil, List.append_nil]
section
variable {P : Program} {w : World} {K : PySem.W.Frag} {mg : Str → Option Value} {base : Heap} {f fU fN fA fL C : Addr} {fd fdU fdN fdA fdL : FuncData}
def spCome (C : Addr) : Sp := fun vs H Q _ => ∃ (p b : Addr) (ds : List Ent) (bs : List Nat) (m : Nat), vs = [.ref p, .ref b, natV m] ∧ WorldAt H p C ds ∧ DsOk ds ∧ ds.length ≤ 12 ∧ SeqAt H b (bs.map natV) ∧ bs.Nodup ∧ (∀ x ∈ bs, x < ds.length) ∧ bs.length ≤ 5 ∧ m < 6 ∧
  ∀ t H', Same H H' → H' t = some (.tup ((comeL ds bs m).map natV)) → Q (.ref t) H'
end
end K59

set_option maxRecDepth 100000
set_option maxHeartbeats 8000000
namespace K59
open PySem PySem.Spec PyProof.Rows L2 Kw LamX
/-- the table of the code of the def that makes the lambda, what it may hold -/
def tabs1 (Pt : Addr) : List (Addr × Str) := [(Pt, (("_law_parts" : Str) ++ (".<locals>." : Str)) ++ ("<lambda>" : Str))]
section
variable {P : Program} {w : World} {K : PySem.W.Frag} {mg : Str → Option Value} {base : Heap} {f c Pt : Addr} {fd : FuncData}
def spParts (Pt : Addr) : Sp := fun vs H Q _ => ∃ n : Nat, vs = [natV n] ∧ n ≤ 6 ∧ Tabs (tabs1 Pt) H ∧
  ∀ D H' us bs, ExtN H H' → Tabs (tabs1 Pt) H' → H' D = some (.lst us) → ListsAt H' us bs → bs.Perm (partsL n) → Q (.ref D) H'
theorem sc_parts : FnScope ["_law_many", "_law_found", "_law_at", "_law_part"] ["_law_many"] (defScope (top 45)) := ⟨rfl, rfl, rfl, by decide +kernel, rfl, by decide +kernel, by decide +kernel⟩
theorem zip_lists {H : Hp} : ∀ {us : List V} {bs : List (List Nat)}, ListsAt H us bs → ∀ z ∈ us.zip bs, ∃ t, z.1 = .ref t ∧ H t = some (.lst (z.2.map natV))
  | [], [], _, z, hz => by cases hz
  | _ :: _, _ :: _, .cons h r, z, hz => by
    rcases List.mem_cons.mp hz with rfl | hz
    · exact h
    · exact zip_lists r z hz
theorem lists_zip {H : Hp} : ∀ {zs : List (V × List Nat)}, (∀ z ∈ zs, ∃ t, z.1 = .ref t ∧ H t = some (.lst (z.2.map natV))) → ListsAt H (zs.map (·.1)) (zs.map (·.2))
  | [], _ => .nil
  | z :: r, h => .cons (h z List.mem_cons_self) (lists_zip fun y hy => h y (List.mem_cons_of_mem _ hy))
theorem ok_parts (F : FnP K "_law_parts" 45 f fd) (hc : fd.code = .ref c) (TB : TabB base mg c Pt) (B : Fr mg) : FnOk P w K mg base CX0 2 f fd ["_law_many"] (spParts Pt) := by
  refine FunD.okC F hc sc_parts (fun vs H Q E h => ?_) (fun A outer s H vs Q E hr h => ?_)
  · obtain ⟨n, rfl, _⟩ := h
    rfl
  · obtain ⟨n, rfl, hn, hT, k⟩ := h
    refine ⟨_, PSs.nox (pss_cons (ps_set (i := 1) sc_parts.nd rfl (Or.inl rfl) (pe_lst (pa_cons (pe_lst pa_nil) pa_nil)))
      (pss_cons (ps_for PassesOwn.never rfl (pi_range1 (by rfl) B.range (pa_cons (pv 0) pa_nil)) (pg_name (i := 2) sc_parts.nd rfl (Or.inr rfl))
        (pss_one (ps_set (i := 1) sc_parts.nd rfl (Or.inl rfl) (pe_op op_cat (pv 1)
            (pe_lc (own := [("_law_part", 3)]) (g := gName 3) (tt := tYes) (te := tOp rCat (tVar 3) (tLst (tCons (tVar 2) tNil))) rfl sc_parts.nd (pi_list (pv 1)) (blkOk_by (N := ["_law_many", "_law_found", "_law_at", "_law_part"]) (sc := defScope (top 45)) (by decide +kernel))
              (fun _ _ _ _ _ => pg_name (i := 3) sc_parts.nd rfl (Or.inl rfl)) (fun _ _ _ _ _ => pts_nil)
              (fun _ _ _ _ _ => ?te))))))
      (pss_one (ps_ret (pe_sortLam (T := tabs1 Pt) (by rfl) B.sorted B.len (pv 1) TB rfl List.mem_cons_self (fun q hq _ => by rw [List.mem_singleton.mp hq]; rfl) hr (by decide) (by decide) (fun q pm cv ctv u => rfl)))))), ?_⟩
    case te => exact pe_op op_cat (pv 3) (pe_lst (pa_cons (pv 2) pa_nil))
    have fresh : ∀ {H1 : Hp} {a : Addr}, Same H H1 → H1 a = none → H a = none := fun s1 h => by
      cases e : H _ with
      | none => rfl
      | some o =>
        rw [s1 _ _ e] at h
        cases h
    refine ⟨(by show 0 ≤ sizeLine; decide), fun T hT0 => ⟨(by show 1 ≤ sizeLine; decide), fun R hR => ?_⟩⟩
    have sT := same_new (o := .lst []) hT0
    have sR := same_new (o := .lst [.ref T]) hR
    have hTT := sR _ _ (upd_same (H := H) (a := T) (o := .lst []))
    refine ⟨_, rfl, _, rfl, by omega, by omega, ?_⟩
    refine for_range (n := n) (fun i σ H' => Same H H' ∧ ∃ (R : Addr) (us : List V) (x2 : Option V), σ = [some (natV n), some (.ref R), x2, none] ∧ H' R = some (.lst us) ∧ ListsAt H' us (partsL i)) ⟨sT.trans sR, R, _, _, rfl, upd_same, .cons ⟨T, rfl, hTT⟩ .nil⟩ ?_ ?_
    · rintro i σ H1 hi ⟨s1, R, us, x2, rfl, hR1, hU⟩
      have ei : (0 : Int) + (i : Int) = (i : Int) := by omega
      rw [ei]
      have ul : us.length = 2 ^ i := hU.len.trans parts_len
      have ul2 : us.length ≤ 64 := by
        rw [ul]
        exact Nat.le_trans (Nat.pow_le_pow_right (by decide) (show i ≤ 6 by omega)) (by decide)
      refine ⟨_, rfl, _, rfl, R, rfl, ⟨_, SqL.of hR1⟩, fun D hD => lc_list (K := K) (a := R) (xs := us) (fun j H' => Same H1 H' ∧ ∃ dus, H' D = some (.lst dus) ∧ (∀ v ∈ dus, v ≠ .ref D) ∧ ListsAt H' dus (((partsL i).take j).map fun p => p ++ [i])) ⟨same_new hD, [], upd_same, (fun v hv => by cases hv), .nil⟩ (fun j H' _ z => SqL.of (z.1 _ _ hR1)) ?_ ?_⟩
      · rintro j v H2 hj ⟨s2, dus, hD2, nD, hDu⟩
        have jl := (List.getElem?_eq_some_iff.mp hj).1
        have jp : j < (partsL i).length := by
          rw [← hU.len]
          exact jl
        obtain ⟨row, hrow⟩ : ∃ row, (partsL i)[j]? = some row := ⟨_, List.getElem?_eq_getElem jp⟩
        obtain ⟨t, et, ht⟩ := hU.get hrow
        rw [hj] at et
        obtain rfl := Option.some.inj et
        have rl : row.length ≤ 64 := by
          obtain ⟨r1, r2⟩ := parts_ok row (List.mem_of_getElem? hrow)
          have := nodup_sub_len' (ns := List.range i) (up_nodup r1) fun x hx => List.mem_range.mpr (r2 x hx)
          rw [List.length_range] at this
          omega
        refine ⟨rfl, _, rfl, _, rfl, (by show 1 ≤ 2 ^ 24; decide), fun L hL => ?_⟩
        have sL := same_new (o := .lst [natV i]) hL
        refine ⟨t, L, _, _, rfl, rfl, sL _ _ (s2 _ _ ht), upd_same, ?_, fun N1 hN1 => ?_⟩
        · rw [List.length_map]
          show row.length + 1 ≤ 2 ^ 24
          omega
        have s3 := sL.trans (same_new (o := .lst (row.map natV ++ [natV i])) hN1)
        have hD3 := s3 _ _ hD2
        have ND : N1 ≠ D := fun z => by
          rw [z] at hN1
          have e := hN1.symm.trans (sL _ _ hD2)
          cases e
        have dl : dus.length ≤ 64 := by
          have := hDu.len
          rw [List.length_map, List.length_take] at this
          omega
        refine ⟨dus, hD3, by (show _ < 2 ^ 24); omega, same_upd (s2.trans s3) hD, dus ++ [.ref N1], upd_same, fun v hv => ?_, ?_⟩
        · rcases List.mem_append.mp hv with hv | hv
          · exact nD v hv
          · rw [List.mem_singleton.mp hv]
            exact fun z => ND (V.ref.inj z)
        · rw [List.take_add_one, hrow, Option.toList_some, List.map_append]
          refine (ListsAt.mono (R := D) (fun b o hb e => upB hb (s3 _ _ e)) nD hDu).app (.cons ⟨N1, rfl, ?_⟩ .nil)
          rw [List.map_append]
          exact upB ND upd_same
      · rintro H2 ⟨s2, dus, hD2, nD, hDu⟩
        rw [hU.len, List.take_length] at hDu
        have dl : dus.length = 2 ^ i := by
          have := hDu.len
          rw [List.length_map, parts_len] at this
          exact this
        refine ⟨R, D, _, _, rfl, rfl, s2 _ _ hR1, hD2, by (show _ ≤ 2 ^ 24); omega, fun N1 hN1 => ?_⟩
        have sN := same_new (o := .lst (us ++ dus)) hN1
        refine ⟨(s1.trans s2).trans sN, N1, us ++ dus, _, rfl, upd_same, ?_⟩
        exact (ListsAt.sameN (s2.trans sN) hU).app (ListsAt.sameN sN hDu)
    · rintro σ H1 ⟨s1, R, us, x2, rfl, hR1, hU⟩
      refine ⟨_, rfl, R, us, partsL n, rfl, hR1, hU, Tabs.ext hT s1, fun H2 r zs eN T2 hr2 ez => ?_⟩
      have sr := same_new (o := .lst (zs.map (·.1))) hr2
      have pz : zs.Perm (us.zip (partsL n)) := by
        rw [ez]
        exact List.mergeSort_perm _ _
      have hl : ∀ z ∈ zs, ∃ t, z.1 = V.ref t ∧ upd H2 r (.lst (zs.map (·.1))) t = some (.lst (z.2.map natV)) := fun z hz => by
        obtain ⟨t, e1, e2⟩ := zip_lists hU z (pz.mem_iff.mp hz)
        exact ⟨t, e1, sr _ _ (eN _ _ e2 (fun ps y => by cases y))⟩
      refine k r _ (zs.map (·.1)) (zs.map (·.2)) ((ExtN.of s1).trans (eN.trans (ExtN.of sr))) (Tabs.ext T2 sr) upd_same (lists_zip hl) ?_
      have e := (pz.map Prod.snd)
      rw [List.map_snd_zip (by rw [hU.len]; exact Nat.le_refl _)] at e
      exact e
end
end K59

set_option maxRecDepth 100000
set_option maxHeartbeats 8000000
namespace K59
open PySem PySem.Spec PyProof.Rows L2 Kw LamX
/-! ### clear lots: mathematics -/
def inKin (ds : List Ent) (L : List Nat) (c : Nat) : List Nat := ((kins (elsOf ds)).getD c []).filter fun k => L.contains k
def amongL (ds : List Ent) (L : List Nat) (c : Nat) : List Nat := topsL (elsOf ds) (inKin ds L c)
theorem inKin_mem {ds : List Ent} {L : List Nat} {c x : Nat} (hc : c < ds.length) : x ∈ inKin ds L c ↔ (x ∈ EL ds c ∨ x = c) ∧ x ∈ L := by
  unfold inKin
  rw [List.mem_filter, kins_els hc, List.mem_append, List.mem_singleton, List.contains_iff_mem]
theorem inKin_up {ds : List Ent} {L : List Nat} {c : Nat} (hc : c < ds.length) : (inKin ds L c).Pairwise (· < ·) := by
  unfold inKin
  refine List.Pairwise.filter _ ?_
  have e : (kins (elsOf ds)).getD c [] = kinOf (elsOf ds) c := kins_getD (by unfold elsOf; rw [elders_len, List.length_map]; exact hc)
  rw [e]
  exact (kin_up (ds.map (·.1)) c (by rw [List.length_map]; exact hc)).1
theorem inKin_le {ds : List Ent} {L : List Nat} {c x : Nat} (hc : c < ds.length) (h : x ∈ inKin ds L c) : x ≤ c := by
  rcases ((inKin_mem hc).mp h).1 with z | z
  · have := EL_lt z
    omega
  · omega
theorem among_mem {ds : List Ent} {L : List Nat} {c x : Nat} : x ∈ amongL ds L c ↔ x ∈ inKin ds L c ∧ ∀ h ∈ inKin ds L c, x ∉ EL ds h := tops_mem
theorem among_up {ds : List Ent} {L : List Nat} {c : Nat} (hc : c < ds.length) : (amongL ds L c).Pairwise (· < ·) := List.Pairwise.filter _ (inKin_up hc)
theorem two_of {l : List Nat} (up : l.Pairwise (· < ·)) (h : 1 < l.length) : ∃ x ∈ l, ∃ y ∈ l, x ≠ y := by
  match l, up, h with
  | x :: y :: r, up, _ =>
    have := List.rel_of_pairwise_cons up (List.mem_cons_self (a := y) (l := r))
    exact ⟨x, List.mem_cons_self, y, List.mem_cons_of_mem _ List.mem_cons_self, by omega⟩
theorem one_of {l : List Nat} (up : l.Pairwise (· < ·)) (h : ∀ x ∈ l, ∀ y ∈ l, x = y) : l.length ≤ 1 := by
  apply Classical.byContradiction
  intro z
  obtain ⟨x, hx, y, hy, ne⟩ := two_of up (by omega)
  exact ne (h x hx y hy)
theorem same_of {l : List Nat} (h : l.length ≤ 1) {x y : Nat} (hx : x ∈ l) (hy : y ∈ l) : x = y := by
  match l, h with
  | [], _ => cases hx
  | [a], _ => rw [List.mem_singleton.mp hx, List.mem_singleton.mp hy]
  | _ :: _ :: _, h => simp at h
theorem among_congr {ds : List Ent} {L M : List Nat} {c : Nat} (hc : c < ds.length) (h : ∀ x, x ≤ c → (x ∈ L ↔ x ∈ M)) : amongL ds L c = amongL ds M c := by
  have e : inKin ds L c = inKin ds M c := up_ext (inKin_up hc) (inKin_up hc) fun x => by
    rw [inKin_mem hc, inKin_mem hc]
    refine and_congr_right fun z => h x ?_
    rcases z with z | z
    · have := EL_lt z
      omega
    · omega
  unfold amongL
  rw [e]
def keptUp (ds : List Ent) (L : List Nat) : Nat → List Nat
  | 0 => L
  | c + 1 => if 1 < (amongL ds (keptUp ds L c) c).length then keptUp ds L c ++ [c] else keptUp ds L c
def keptL (ds : List Ent) (L : List Nat) : List Nat := keptUp ds L ds.length
theorem kept_step {ds : List Ent} {L : List Nat} {c x : Nat} : x ∈ keptUp ds L (c + 1) ↔ x ∈ keptUp ds L c ∨ (x = c ∧ 1 < (amongL ds (keptUp ds L c) c).length) := by
  show x ∈ (if 1 < (amongL ds (keptUp ds L c) c).length then keptUp ds L c ++ [c] else keptUp ds L c) ↔ _
  by_cases h : 1 < (amongL ds (keptUp ds L c) c).length
  · rw [if_pos h, List.mem_append, List.mem_singleton]
    exact ⟨fun z => z.imp id fun e => ⟨e, h⟩, fun z => z.imp id fun e => e.1⟩
  · rw [if_neg h]
    exact ⟨.inl, fun z => z.elim id fun e => absurd e.2 h⟩
theorem kept_base {ds : List Ent} {L : List Nat} {x : Nat} (hx : x ∈ L) : ∀ c, x ∈ keptUp ds L c
  | 0 => hx
  | c + 1 => kept_step.mpr (.inl (kept_base hx c))
theorem kept_new {ds : List Ent} {L : List Nat} {x : Nat} : ∀ {c}, x ∈ keptUp ds L c → x ∈ L ∨ x < c
  | 0, h => .inl h
  | c + 1, h => by
    rcases kept_step.mp h with h | ⟨h, _⟩
    · exact (kept_new h).imp id fun z => by omega
    · exact .inr (by omega)
theorem kept_stable {ds : List Ent} {L : List Nat} {x c : Nat} (hx : x < c) : ∀ k, x ∈ keptUp ds L (c + k) ↔ x ∈ keptUp ds L c
  | 0 => Iff.rfl
  | k + 1 => by
    rw [show c + (k + 1) = (c + k) + 1 by omega, kept_step, kept_stable hx k]
    exact ⟨fun z => z.elim id fun e => by have := e.1; omega, .inl⟩
theorem clear_at {ds : List Ent} {L : List Nat} {c d : Nat} (hc : c < ds.length) (hd : c < d) : (amongL ds (keptUp ds L d) c).length ≤ 1 := by
  have e : amongL ds (keptUp ds L d) c = amongL ds (keptUp ds L (c + 1)) c := among_congr hc fun x hx => by
    have := kept_stable (ds := ds) (L := L) (x := x) (c := c + 1) (by omega) (d - (c + 1))
    rw [show c + 1 + (d - (c + 1)) = d by omega] at this
    exact this
  rw [e]
  by_cases h : 1 < (amongL ds (keptUp ds L c) c).length
  · refine one_of (among_up hc) ?_
    have top : ∀ x ∈ amongL ds (keptUp ds L (c + 1)) c, x = c := fun x hx => by
      obtain ⟨h1, h2⟩ := among_mem.mp hx
      rcases ((inKin_mem hc).mp h1).1 with z | z
      · exact absurd z (h2 c ((inKin_mem hc).mpr ⟨.inr rfl, kept_step.mpr (.inr ⟨rfl, h⟩)⟩))
      · exact z
    intro x hx y hy
    rw [top x hx, top y hy]
  · have e2 : keptUp ds L (c + 1) = keptUp ds L c := if_neg h
    rw [e2]
    omega
def ClearL (ds : List Ent) (M : List Nat) : Prop := ∀ c, c < ds.length → (amongL ds M c).length ≤ 1
theorem kept_clear {ds : List Ent} {L : List Nat} : ClearL ds (keptL ds L) := fun c hc => clear_at hc hc
theorem above {ds : List Ent} (ok : DsOk ds) {L : List Nat} {c x : Nat} (hc : c < ds.length) (hx : x ∈ inKin ds L c) : ∃ t ∈ amongL ds L c, x = t ∨ x ∈ EL ds t := by
  rcases tops_above ok (xs := inKin ds L c) (n := c + 1) (fun y hy => by have := inKin_le hc hy; omega) (c + 1) x (by omega) hx with z | ⟨t, ht, z⟩
  · exact ⟨x, z, .inl rfl⟩
  · exact ⟨t, ht, .inr z⟩
theorem kept_least {ds : List Ent} (ok : DsOk ds) {L M : List Nat} (hM : ClearL ds M) (hL : ∀ x ∈ L, x ∈ M) : ∀ c, c ≤ ds.length → ∀ x ∈ keptUp ds L c, x ∈ M
  | 0, _, x, hx => hL x hx
  | c + 1, hc, x, hx => by
    have ih := kept_least ok hM hL c (by omega)
    rcases kept_step.mp hx with h | ⟨rfl, h⟩
    · exact ih x h
    · have cl : x < ds.length := by omega
      apply Classical.byContradiction
      intro nM
      obtain ⟨u, hu, v, hv, ne⟩ := two_of (among_up cl) h
      obtain ⟨u1, u2⟩ := among_mem.mp hu
      obtain ⟨v1, v2⟩ := among_mem.mp hv
      have sub : ∀ {y : Nat}, y ∈ inKin ds (keptUp ds L x) x → y ∈ inKin ds M x := fun {y} hy => by
        obtain ⟨h1, h2⟩ := (inKin_mem cl).mp hy
        exact (inKin_mem cl).mpr ⟨h1, ih y h2⟩
      obtain ⟨t, ht, zu⟩ := above ok cl (sub u1)
      obtain ⟨t', ht', zv⟩ := above ok cl (sub v1)
      obtain rfl := same_of (hM x cl) ht ht'
      obtain ⟨k1, k2⟩ := (inKin_mem cl).mp (among_mem.mp ht).1
      have te : t ∈ EL ds x := k1.elim id fun e => absurd (by rw [← e]; exact k2) nM
      have tl := EL_lt te
      have inn : ∀ {y : Nat}, y ∈ inKin ds (keptUp ds L x) x → (y = t ∨ y ∈ EL ds t) → y ∈ inKin ds (keptUp ds L x) t := fun {y} hy hz => (inKin_mem (show t < ds.length by omega)).mpr ⟨hz.symm, ((inKin_mem cl).mp hy).2⟩
      obtain ⟨s, hs, yu⟩ := above ok (show t < ds.length by omega) (inn u1 zu)
      obtain ⟨s', hs', yv⟩ := above ok (show t < ds.length by omega) (inn v1 zv)
      have td : t < ds.length := by omega
      obtain rfl := same_of (clear_at td tl) hs hs'
      obtain ⟨m1, m2⟩ := (inKin_mem td).mp (among_mem.mp hs).1
      have sx : s ∈ inKin ds (keptUp ds L x) x := (inKin_mem cl).mpr ⟨.inl (m1.elim (fun e => EL_trans ok te e) fun e => by rw [e]; exact te), m2⟩
      have eu : u = s := yu.elim id fun e => absurd e (u2 s sx)
      have ev : v = s := yv.elim id fun e => absurd e (v2 s sx)
      exact ne (eu.trans ev.symm)
theorem kept_lt {ds : List Ent} {L : List Nat} (hL : ∀ x ∈ L, x < ds.length) : ∀ x ∈ keptL ds L, x < ds.length := fun x hx => (kept_new hx).elim (hL x) id
theorem kept_nodup {ds : List Ent} {L : List Nat} (nd : L.Nodup) : ∀ c, c ≤ ds.length → (keptUp ds L c).Nodup
  | 0, _ => nd
  | c + 1, hc => by
    have ih := kept_nodup nd c (Nat.le_of_succ_le hc)
    show (if 1 < (amongL ds (keptUp ds L c) c).length then keptUp ds L c ++ [c] else keptUp ds L c).Nodup
    by_cases h : 1 < (amongL ds (keptUp ds L c) c).length
    · rw [if_pos h]
      refine List.nodup_append.mpr ⟨ih, List.nodup_cons.mpr ⟨List.not_mem_nil, .nil⟩, fun x hx y hy e => ?_⟩
      rw [List.mem_singleton.mp hy] at e
      rw [e] at hx
      have cd : c < ds.length := by omega
      obtain ⟨u, hu, v, hv, ne⟩ := two_of (among_up cd) h
      have top : ∀ z ∈ amongL ds (keptUp ds L c) c, z = c := fun z hz => by
        obtain ⟨h1, h2⟩ := among_mem.mp hz
        rcases ((inKin_mem cd).mp h1).1 with q | q
        · exact absurd q (h2 c ((inKin_mem cd).mpr ⟨.inr rfl, hx⟩))
        · exact q
      exact ne ((top u hu).trans (top v hv).symm)
    · rw [if_neg h]
      exact ih
/-- the least clear lot, ascending -/
def dueL (ds : List Ent) (L : List Nat) : List Nat := upS ds.length (keptL ds L)
theorem due_mem {ds : List Ent} {L : List Nat} (hL : ∀ x ∈ L, x < ds.length) {x : Nat} : x ∈ dueL ds L ↔ x ∈ keptL ds L := upS_mem (kept_lt hL)
theorem clear_congr {ds : List Ent} {M M' : List Nat} (h : ∀ x, x ∈ M ↔ x ∈ M') (c : ClearL ds M) : ClearL ds M' := fun i hi => by
  rw [← among_congr hi fun x _ => h x]
  exact c i hi
theorem kept_congr {ds : List Ent} {L L' : List Nat} (h : ∀ x, x ∈ L ↔ x ∈ L') : ∀ c, c ≤ ds.length → ∀ x, x ∈ keptUp ds L c ↔ x ∈ keptUp ds L' c
  | 0, _, x => h x
  | c + 1, hc, x => by
    have ih := kept_congr (ds := ds) h c (Nat.le_of_succ_le hc)
    rw [kept_step, kept_step, ih x, among_congr (show c < ds.length by omega) fun y _ => ih y]
theorem due_congr {ds : List Ent} {L L' : List Nat} (h : ∀ x, x ∈ L ↔ x ∈ L') : dueL ds L = dueL ds L' := by
  unfold dueL upS
  refine List.filter_congr fun x _ => ?_
  rw [Bool.eq_iff_iff, List.contains_iff_mem, List.contains_iff_mem]
  exact kept_congr h ds.length (Nat.le_refl _) x
def unclearL (ds : List Ent) (M : List Nat) : List Nat := (List.range ds.length).filter fun c => decide (1 < (amongL ds M c).length)
theorem unclear_nil {ds : List Ent} {M : List Nat} : unclearL ds M = [] ↔ ClearL ds M := by
  unfold unclearL ClearL
  rw [List.filter_eq_nil_iff]
  constructor
  · intro h c hc
    have := h c (List.mem_range.mpr hc)
    rw [decide_eq_true_iff] at this
    omega
  · intro h c hc
    have := h c (List.mem_range.mp hc)
    rw [decide_eq_true_iff]
    omega
theorem unclear_congr {ds : List Ent} {M M' : List Nat} (h : ∀ x, x ∈ M ↔ x ∈ M') : unclearL ds M = unclearL ds M' := by
  unfold unclearL
  refine List.filter_congr fun c hc => ?_
  rw [among_congr (List.mem_range.mp hc) fun x _ => h x]
theorem parts_all : ∀ {n : Nat} {p : List Nat}, p.Pairwise (· < ·) → (∀ x ∈ p, x < n) → p ∈ partsL n
  | 0, p, _, h => by
    match p with
    | [] => exact List.mem_singleton.mpr rfl
    | x :: _ => exact absurd (h x List.mem_cons_self) (Nat.not_lt_zero _)
  | n + 1, p, up, h => by
    by_cases c : n ∈ p
    · have q : p.filter (fun x => decide (x < n)) ∈ partsL n := parts_all (List.Pairwise.filter _ up) fun x hx => of_decide_eq_true (List.mem_filter.mp hx).2
      refine List.mem_append_right _ (List.mem_map.mpr ⟨_, q, ?_⟩)
      refine up_ext (List.pairwise_append.mpr ⟨List.Pairwise.filter _ up, List.pairwise_singleton _ _, fun x hx y hy => ?_⟩) up fun x => ?_
      · rw [List.mem_singleton.mp hy]
        exact of_decide_eq_true (List.mem_filter.mp hx).2
      · rw [List.mem_append, List.mem_singleton, List.mem_filter, decide_eq_true_iff]
        constructor
        · rintro (z | rfl)
          · exact z.1
          · exact c
        · intro hx
          have := h x hx
          by_cases e : x = n
          · exact .inr e
          · exact .inl ⟨hx, by omega⟩
    · exact List.mem_append_left _ (parts_all up fun x hx => by
        have := h x hx
        have : x ≠ n := fun e => c (by rw [← e]; exact hx)
        omega)
/-- what all of some lots have -/
def sharedL (n : Nat) (Ms : List (List Nat)) : List Nat := (List.range n).filter fun c => !(Ms.any fun M => !M.contains c)
theorem shared_mem {n : Nat} {Ms : List (List Nat)} {c : Nat} : c ∈ sharedL n Ms ↔ c < n ∧ ∀ M ∈ Ms, c ∈ M := by
  unfold sharedL
  rw [List.mem_filter, List.mem_range, Bool.not_eq_true', ← Bool.not_eq_true, List.any_eq_true]
  refine and_congr Iff.rfl ⟨fun z M hM => ?_, fun z ⟨M, hM, y⟩ => ?_⟩
  · apply Classical.byContradiction
    intro q
    refine z ⟨M, hM, ?_⟩
    rw [Bool.not_eq_true', ← Bool.not_eq_true, List.contains_iff_mem]
    exact q
  · rw [Bool.not_eq_true', ← Bool.not_eq_true, List.contains_iff_mem] at y
    exact y (z M hM)
theorem due_shared {ds : List Ent} (ok : DsOk ds) {L : List Nat} (hL : ∀ x ∈ L, x < ds.length) {bs Ms : List (List Nat)} (perm : bs.Perm (partsL ds.length)) (hMs : ∀ M, M ∈ Ms ↔ M ∈ bs ∧ ClearL ds M ∧ ∀ x ∈ L, x ∈ M) : sharedL ds.length Ms = dueL ds L := by
  refine up_ext (List.Pairwise.filter _ List.pairwise_lt_range) upS_up fun c => ?_
  rw [shared_mem, due_mem hL]
  constructor
  · rintro ⟨_, h⟩
    have := h (dueL ds L) ((hMs _).mpr ⟨perm.mem_iff.mpr (parts_all upS_up fun x hx => kept_lt hL x ((due_mem hL).mp hx)), clear_congr (fun x => (due_mem hL).symm) kept_clear, fun x hx => (due_mem hL).mpr (kept_base hx _)⟩)
    exact (due_mem hL).mp this
  · intro h
    refine ⟨kept_lt hL c h, fun M hM => ?_⟩
    obtain ⟨_, h2, h3⟩ := (hMs M).mp hM
    exact kept_least ok h2 h3 ds.length (Nat.le_refl _) c h
theorem due_in {ds : List Ent} {L : List Nat} (hL : ∀ x ∈ L, x < ds.length) {bs : List (List Nat)} (perm : bs.Perm (partsL ds.length)) : dueL ds L ∈ bs ∧ ClearL ds (dueL ds L) :=
  ⟨perm.mem_iff.mpr (parts_all upS_up fun x hx => kept_lt hL x ((due_mem hL).mp hx)), clear_congr (fun x => (due_mem hL).symm) kept_clear⟩
/-! a class more -/
theorem among_more {ds es : List Ent} {L : List Nat} {c : Nat} (hc : c < ds.length) : amongL (ds ++ es) L c = amongL ds L c := by
  have lc : c < (ds ++ es).length := by
    rw [List.length_append]
    omega
  have e : inKin (ds ++ es) L c = inKin ds L c := up_ext (inKin_up lc) (inKin_up hc) fun x => by rw [inKin_mem lc, inKin_mem hc, EL_more hc]
  refine up_ext (among_up lc) (among_up hc) fun x => ?_
  rw [among_mem, among_mem, e]
  refine and_congr Iff.rfl ⟨fun z h hh => ?_, fun z h hh => ?_⟩
  · rw [← EL_more (es := es) (show h < ds.length by have := inKin_le hc hh; omega)]
    exact z h hh
  · rw [EL_more (es := es) (show h < ds.length by have := inKin_le hc hh; omega)]
    exact z h hh
theorem kept_more {ds es : List Ent} {L : List Nat} : ∀ c, c ≤ ds.length → keptUp (ds ++ es) L c = keptUp ds L c
  | 0, _ => rfl
  | c + 1, hc => by
    show (if 1 < (amongL (ds ++ es) (keptUp (ds ++ es) L c) c).length then keptUp (ds ++ es) L c ++ [c] else keptUp (ds ++ es) L c) = (if 1 < (amongL ds (keptUp ds L c) c).length then keptUp ds L c ++ [c] else keptUp ds L c)
    rw [kept_more c (by omega), among_more (show c < ds.length by omega)]
theorem due_more {ds : List Ent} {d : Ent} {L : List Nat} (hL : ∀ x ∈ L, x < ds.length) : dueL (ds ++ [d]) L = dueL ds L ∨ dueL (ds ++ [d]) L = dueL ds L ++ [ds.length] := by
  have ll : (ds ++ [d]).length = ds.length + 1 := by rw [List.length_append, List.length_singleton]
  have hL' : ∀ x ∈ L, x < (ds ++ [d]).length := fun x hx => by have := hL x hx; omega
  have e : ∀ x, x ∈ keptL (ds ++ [d]) L ↔ x ∈ keptL ds L ∨ (x = ds.length ∧ 1 < (amongL (ds ++ [d]) (keptL ds L) ds.length).length) := fun x => by
    show x ∈ keptUp (ds ++ [d]) L (ds ++ [d]).length ↔ _
    rw [ll, kept_step, kept_more ds.length (Nat.le_refl _)]
    rfl
  by_cases h : 1 < (amongL (ds ++ [d]) (keptL ds L) ds.length).length
  · refine .inr (up_ext upS_up (List.pairwise_append.mpr ⟨upS_up, List.pairwise_singleton _ _, fun x hx y hy => ?_⟩) fun x => ?_)
    · rw [List.mem_singleton.mp hy]
      exact kept_lt hL x ((due_mem hL).mp hx)
    · rw [due_mem hL', e, List.mem_append, List.mem_singleton, due_mem hL]
      exact ⟨fun z => z.imp id fun q => q.1, fun z => z.imp id fun q => ⟨q, h⟩⟩
  · refine .inl (up_ext upS_up upS_up fun x => ?_)
    rw [due_mem hL', e, due_mem hL]
    exact ⟨fun z => z.elim id fun q => absurd q.2 h, .inl⟩
theorem tops_same {els : List (List Nat)} {xs : List Nat} (up : xs.Pairwise (· < ·)) (hx : ∀ x ∈ xs, x < els.length) : topsG els xs = topsL els xs :=
  up_ext topsG_up (List.Pairwise.filter _ up) fun x => by rw [topsG_mem hx, tops_mem]
theorem among_len {ds : List Ent} (ok : DsOk ds) (h12 : ds.length ≤ 12) {L : List Nat} {c : Nat} (hc : c < ds.length) : (inKin ds L c).length ≤ 12 ∧ (amongL ds L c).length ≤ 12 := by
  have h1 : (inKin ds L c).length ≤ 12 := Nat.le_trans (List.length_filter_le _ _) (kin_len ok hc h12)
  exact ⟨h1, Nat.le_trans (List.length_filter_le _ _) h1⟩
end K59

set_option maxRecDepth 100000
set_option maxHeartbeats 8000000
namespace K59
open PySem PySem.Spec PyProof.Rows L2 Kw LamX
theorem upS_len {n : Nat} {xs : List Nat} : (upS n xs).length ≤ n := by
  unfold upS
  refine Nat.le_trans (List.length_filter_le _ _) ?_
  rw [List.length_range]
  exact Nat.le_refl _
theorem inKin_len {ds : List Ent} (ok : DsOk ds) {L : List Nat} {c : Nat} (hc : c < ds.length) (h12 : ds.length ≤ 12) : (inKin ds L c).length ≤ 12 := Nat.le_trans (List.length_filter_le _ _) (kin_len ok hc h12)
theorem amongC_len {ds : List Ent} (ok : DsOk ds) {L : List Nat} {c : Nat} (hc : c < ds.length) (h12 : ds.length ≤ 12) : (amongL ds L c).length ≤ 12 := Nat.le_trans (List.length_filter_le _ _) (inKin_len ok hc h12)
theorem kept_len {ds : List Ent} {L : List Nat} : ∀ c, (keptUp ds L c).length ≤ L.length + c
  | 0 => Nat.le_refl _
  | c + 1 => by
    have ih := kept_len (ds := ds) (L := L) c
    show (if 1 < (amongL ds (keptUp ds L c) c).length then keptUp ds L c ++ [c] else keptUp ds L c).length ≤ _
    by_cases h : 1 < (amongL ds (keptUp ds L c) c).length
    · rw [if_pos h, List.length_append]
      show _ + 1 ≤ _
      omega
    · rw [if_neg h]
      omega
section
variable {P : Program} {w : World} {K : PySem.W.Frag} {mg : Str → Option Value} {base : Heap} {f fS fW fC fN fL fCL fAm C Cn : Addr} {fd fdS fdW fdC fdN fdL fdCL fdAm : FuncData}
def spLotC (C : Addr) : Sp := fun vs H Q _ => ∃ (p b : Addr) (ds : List Ent) (ns : List Nat), vs = [.ref p, .ref b] ∧ WorldAt H p C ds ∧ ds.length ≤ 12 ∧ SeqAt H b (ns.map natV) ∧ (∀ x ∈ ns, x < ds.length) ∧ ns.length ≤ 60 ∧
  ∀ t H', Same H H' → H' t = some (.tup ((upS ds.length ns).map natV)) → Q (.ref t) H'
theorem sc_checkLot : FnScope ["world", "lot", "index", "c"] ["world", "lot"] (defScope (top 29)) := ⟨rfl, rfl, rfl, by decide +kernel, rfl, by decide +kernel, by decide +kernel⟩
theorem ok_checkLot (F : FnP K "check_lot" 29 f fd) (B : Fr mg) (TC : ClsWorld K mg C) (FW : FnDf K "is_whole" 9 [.non, .non] fW fdW) (mW : mg "is_whole" = some (.ref fW)) (FS : FnP K "is_sequence" 8 fS fdS) (mS : mg "is_sequence" = some (.ref fS)) :
    FnOk P w K mg base CX0 3 f fd ["world", "lot"] (spLotC C) := by
  have GS : FnOk P w K mg base CX0 1 fS fdS ["thing"] spIsSeq := ok_isSeq FS B
  have bS : L2.Binds K fdS ["thing"] [] := FS.bindsN fun _ _ _ _ _ _ us hl => match us, hl with | [_], _ => rfl
  have GW : FnOk P w K mg base CX0 1 fW fdW ["thing", "low", "high"] spWhole := ok_whole FW B
  have bW := binds_whole3 FW
  refine F.ok sc_checkLot (fun vs H Q E h => ?_) (fun cdv A outer s H vs Q E hr h => ?_)
  · obtain ⟨p, b, ds, ns, rfl, _⟩ := h
    rfl
  · obtain ⟨p, b, ds, ns, rfl, hw, h12, hA, hb, h60, k⟩ := h
    refine ⟨_, PSs.nox (pss_cons (ps_if (pt_not (pt_val (pe_call GS (hr.mono (by decide)) (by rfl) mS FS.kp bS .nil pass0 (pa_cons (pv 1) pa_nil)))) (pss_one ps_never) pss_nil)
      (pss_cons (ps_for PassesOwn.never rfl (pi_or (pi_enum (by rfl) B.enumerate (pa_cons (pv 1) pa_nil)) (pi_enumT (by rfl) B.enumerate (pa_cons (pv 1) pa_nil))) (pg_tup (by rfl) (pgs_cons (pg_name (i := 2) sc_checkLot.nd rfl (Or.inl rfl)) (pgs_cons (pg_name (i := 3) sc_checkLot.nd rfl (Or.inl rfl)) pgs_nil)))
        (pss_one (ps_if (pt_not (pt_val (pe_call GW (hr.mono (by decide)) (by rfl) mW FW.kp bW .nil pass0 (pa_cons (pv 3) (pa_cons pe_int (pa_cons (pe_op op_sub (pe_callB call_len_seq (by rfl) B.len PySem.boot_len (pa_cons (pe_fld (pv 0) rfl) pa_nil)) pe_int) pa_nil)))))) (pss_one ps_never) pss_nil)))
      (pss_one (ps_ret (pe_callTy (T := "tuple") (r := rTupOf K) (call_tup (X := _)) (by rfl) B.tuple (by decide +kernel) (pa_cons (pe_callB (cr_sortedSet rfl) (by rfl) B.sorted (by decide +kernel) (pa_cons (pe_callTy (T := "set") (r := rSetSI K w) (call_setSI (X := _) rfl) (by rfl) B.set (by decide +kernel) (pa_cons (pv 1) pa_nil)) pa_nil)) pa_nil)))))), ?_⟩
    obtain ⟨ty, tyA, hseq⟩ := hA.ty
    refine ⟨_, rfl, _, ty, rfl, tyA, fun H1 s1 => ⟨_, rfl, ?_⟩⟩
    rw [hseq]
    refine iteF ?_
    refine for_enumS (K := K) (a := b) (xs := ns.map natV) rfl hA s1 (fun i σ H' => Same H H' ∧ ∃ x2 x3, σ = [some (.ref p), some (.ref b), x2, x3]) ⟨s1, _, _, rfl⟩ (fun i σ H' h => h.1) ?_ ?_
    · rintro i e σ H' T hi ⟨sH, x2, x3, rfl⟩ hT
      rw [List.getElem?_map] at hi
      obtain ⟨o, ho, rfl⟩ := Option.map_eq_some_iff.mp hi
      have ol := hb o (List.mem_of_getElem? ho)
      have sT := sH.trans (same_new (o := .tup [.int (i : Nat), natV o]) hT)
      obtain ⟨dx, ac, ab, ao, am, ae, ah, cs, bs, ms, es, hs', h1, h2, h3, _⟩ := hw.mono sT
      refine ⟨T, _, rfl, SqT.of upd_same, rfl, _, _, rfl, _, _, rfl, rfl, ?_⟩
      refine ⟨_, rfl, _, rfl, p, C, dx, _, _, rfl, h1, TC.cl, TC.no _ (List.mem_of_getElem? (i := 0) rfl), rfl, ac, cs, rfl, .inr (SqT.of h2), _, _, rfl, rfl, natV o, _, _, "int", rfl, .int _, .inr ⟨_, rfl⟩, .inr ⟨_, rfl⟩, _, rfl, ?_⟩
      rw [h3.len]
      rw [whole_of ol]
      exact iteF' rfl ⟨sT, _, _, rfl⟩
    · rintro σ H2 ⟨sH, x2, x3, rfl⟩
      refine ⟨_, rfl, b, ns.map (fun (n : Nat) => (n : Int)), rfl, ?_, ?_, fun S c hS hc => ?_⟩
      · rw [List.map_map]
        exact (hA.same sH).sq
      · rw [List.length_map]
        omega
      rw [List.length_map] at hc
      have sS := same_new (o := SetO w S (fun j => decide (j ∈ ns.map (fun (n : Nat) => (n : Int)))) c) hS
      refine ⟨S, _, c, rfl, upd_same, by omega, fun ks L asc hks hlen hL2 => ?_⟩
      have ens : ks.map V.int = (upS ds.length ns).map natV := asc_one asc upS_up fun k => by
        rw [hks k, decide_eq_true_iff, List.mem_map]
        exact ⟨fun ⟨n, hn, e⟩ => ⟨n, (upS_mem hb).mpr hn, e.symm⟩, fun ⟨n, hn, e⟩ => ⟨n, (upS_mem hb).mp hn, e.symm⟩⟩
      have sL := sS.trans (same_new (o := .lst (ks.map V.int)) hL2)
      exact tup_q (.inl upd_same) fun t H3 s3 ht => k t H3 ((sH.trans sL).trans s3) (by rw [← ens]; exact ht)
def spAmong (C : Addr) : Sp := fun vs H Q _ => ∃ (p r : Addr) (ds : List Ent) (L : List Nat) (c : Nat), vs = [.ref p, .ref r, natV c] ∧ WorldAt H p C ds ∧ DsOk ds ∧ ds.length ≤ 12 ∧ c < ds.length ∧ H r = some (.tup (L.map natV)) ∧
  ∀ t H', Same H H' → H' t = some (.tup ((amongL ds L c).map natV)) → Q (.ref t) H'
theorem sc_among : FnScope ["world", "lot", "c", "k"] ["world", "lot", "c"] (defScope (top 31)) := ⟨rfl, rfl, rfl, by decide +kernel, rfl, by decide +kernel, by decide +kernel⟩
theorem ok_among (F : FnP K "answers_among" 31 f fd) (TC : ClsWorld K mg C) (FL : FnP K "last_heirs" 26 fL fdL) (mL : mg "last_heirs" = some (.ref fL)) (GL : FnOk P w K mg base CX0 1 fL fdL ["world", "classes"] (spLastL C)) :
    FnOk P w K mg base CX0 2 f fd ["world", "lot", "c"] (spAmong C) := by
  have bL : L2.Binds K fdL ["world", "classes"] [] := FL.bindsN fun _ _ _ _ _ _ us hl => match us, hl with | [_, _], _ => rfl
  refine F.ok sc_among (fun vs H Q E h => ?_) (fun cdv A outer s H vs Q E hr h => ?_)
  · obtain ⟨p, r, ds, L, c, rfl, _⟩ := h
    rfl
  · obtain ⟨p, r, ds, L, c, rfl, hw, ok, h12, hc, hR, k⟩ := h
    refine ⟨_, PSs.nox (pss_one (ps_ret (pe_call GL hr (by rfl) mL FL.kp bL .nil pass0 (pa_cons (pv 0) (pa_cons
        (pe_lc (own := [("k", 3)]) (g := gName 3) (tt := tTest (tOp (rIn K false) (tVar 3) (tVar 1))) (te := tVar 3) rfl sc_among.nd (pi_tup (pe_op (r := rCatQ K) op_catQ (pe_ix (r := rIxT K) ix_tup (pe_fld (pv 0) rfl) (pv 2) (fun _ _ => rfl)) (pe_tup (pa_cons (pv 2) pa_nil)))) (blkOk_by (N := ["world", "lot", "c", "k"]) (sc := defScope (top 31)) (by decide +kernel))
          (fun _ _ _ _ _ => pg_name (i := 3) sc_among.nd rfl (Or.inl rfl)) (fun _ _ _ _ _ => pts_one (pt_cmpR (r := rIn K false) op_in_seq (pv 3) (pv 1) (by rfl))) (fun _ _ _ _ _ => pv 3)) pa_nil))))), ?_⟩
    obtain ⟨dx, fs, ae, es, t1, p1, p2, p3, p4, p5⟩ := hw.elder hc
    refine ⟨_, rfl, _, rfl, p, C, dx, _, _, rfl, p1, TC.cl, TC.no _ (List.mem_of_getElem? (i := 4) rfl), p2, _, rfl, ae, es, (c : Int), _, rfl, rfl, SqT.of p3, atI_nat p4, _, rfl, (by show 1 ≤ sizeLine; decide), fun T hT => ?_⟩
    have sT := same_new (o := .tup [natV c]) hT
    have kl := kin_len ok hc h12
    have elen : ((elsOf ds).getD c []).length ≤ 12 := by
      have := kl
      rw [kins_els hc, List.length_append] at this
      omega
    refine cat_q (xs := ((elsOf ds).getD c []).map natV) (ys := [natV c]) (sT _ _ p5) upd_same (by rw [List.length_map]; show _ + 1 ≤ 2 ^ 24; omega) (Same.refl _) fun t2 H2 s2 ht2 => ?_
    have ek : ((elsOf ds).getD c []).map natV ++ [natV c] = ((kins (elsOf ds)).getD c []).map natV := by
      rw [kins_els hc, List.map_append]
      rfl
    rw [ek] at ht2
    have s12 := sT.trans s2
    refine ⟨t2, rfl, ⟨_, SqT.of ht2⟩, fun D hD => lc_tup (K := K) (a := t2) (xs := ((kins (elsOf ds)).getD c []).map natV) (fun j H' => Same H2 H' ∧ H' D = some (.lst (((((kins (elsOf ds)).getD c []).take j).filter fun k => L.contains k).map natV))) ⟨same_new hD, upd_same⟩ (fun j H' _ z => SqT.of (z.1 _ _ ht2)) ?_ ?_⟩
    · rintro j v H3 hj ⟨s3, hD3⟩
      rw [List.getElem?_map] at hj
      obtain ⟨x, hx, rfl⟩ := Option.map_eq_some_iff.mp hj
      refine ⟨rfl, _, rfl, _, rfl, r, _, rfl, .inr (SqT.of ((s12.trans s3) _ _ hR)), rfl, flat_nats _, _, rfl, ?_⟩
      have ein : inV (natV x) (L.map natV) = L.contains x := inV_nat _ _
      show (if inV (natV x) (L.map natV) = true then _ else _)
      rw [ein]
      have st := take_filterN (p := fun k => L.contains k) hx
      cases hb : L.contains x with
      | true =>
        rw [hb, if_pos rfl] at st
        refine iteT' rfl ⟨_, rfl, _, hD3, ?_, same_upd s3 hD, by rw [st, List.map_append, upd_same]; rfl⟩
        rw [List.length_map]
        refine Nat.lt_of_le_of_lt (List.length_filter_le _ _) ?_
        rw [List.length_take]
        show _ < 2 ^ 24
        omega
      | false =>
        rw [hb, if_neg (by decide), List.append_nil] at st
        exact iteF' rfl ⟨s3, by rw [st]; exact hD3⟩
    · rintro H3 ⟨s3, hD3⟩
      rw [List.length_map, List.take_length] at hD3
      have s13 := s12.trans s3
      exact ⟨p, D, ds, inKin ds L c, rfl, hw.mono s13, ok, hD3, fun x hx => by have := inKin_le hc hx; omega, h12, inKin_len ok hc h12, fun t H4 s4 ht => k t H4 (s13.trans s4) ht⟩
def spLotAns (C : Addr) : Sp := fun vs H Q _ => ∃ (p b : Addr) (ds : List Ent) (ns : List Nat) (c : Nat), vs = [.ref p, .ref b, natV c] ∧ WorldAt H p C ds ∧ DsOk ds ∧ ds.length ≤ 12 ∧ SeqAt H b (ns.map natV) ∧ (∀ x ∈ ns, x < ds.length) ∧ ns.length ≤ 60 ∧ c < ds.length ∧
  ∀ t H', Same H H' → H' t = some (.tup ((amongL ds (upS ds.length ns) c).map natV)) → Q (.ref t) H'
def spUnclear (C : Addr) : Sp := fun vs H Q _ => ∃ (p b : Addr) (ds : List Ent) (ns : List Nat), vs = [.ref p, .ref b] ∧ WorldAt H p C ds ∧ DsOk ds ∧ ds.length ≤ 12 ∧ SeqAt H b (ns.map natV) ∧ (∀ x ∈ ns, x < ds.length) ∧ ns.length ≤ 60 ∧
  ∀ t H', Same H H' → H' t = some (.tup ((unclearL ds (upS ds.length ns)).map natV)) → Q (.ref t) H'
def spLeastC (C : Addr) : Sp := fun vs H Q _ => ∃ (p b : Addr) (ds : List Ent) (ns : List Nat), vs = [.ref p, .ref b] ∧ WorldAt H p C ds ∧ DsOk ds ∧ ds.length ≤ 12 ∧ SeqAt H b (ns.map natV) ∧ (∀ x ∈ ns, x < ds.length) ∧ ns.length ≤ 60 ∧
  ∀ t H', Same H H' → H' t = some (.tup ((dueL ds (upS ds.length ns)).map natV)) → Q (.ref t) H'
theorem sc_leastC : FnScope ["world", "lot", "kept", "c"] ["world", "lot"] (defScope (top 32)) := ⟨rfl, rfl, rfl, by decide +kernel, rfl, by decide +kernel, by decide +kernel⟩
theorem ok_leastC (F : FnP K "least_clear" 32 f fd) (B : Fr mg) (TC : ClsWorld K mg C)
    (FCL : FnP K "check_lot" 29 fCL fdCL) (mCL : mg "check_lot" = some (.ref fCL)) (GCL : FnOk P w K mg base CX0 3 fCL fdCL ["world", "lot"] (spLotC C)) (FAm : FnP K "answers_among" 31 fAm fdAm) (mAm : mg "answers_among" = some (.ref fAm)) (GAm : FnOk P w K mg base CX0 2 fAm fdAm ["world", "lot", "c"] (spAmong C)) :
    FnOk P w K mg base CX0 4 f fd ["world", "lot"] (spLeastC C) := by
  have bCL : L2.Binds K fdCL ["world", "lot"] [] := FCL.bindsN fun _ _ _ _ _ _ us hl => match us, hl with | [_, _], _ => rfl
  have bAm : L2.Binds K fdAm ["world", "lot", "c"] [] := FAm.bindsN fun _ _ _ _ _ _ us hl => match us, hl with | [_, _, _], _ => rfl
  refine F.ok sc_leastC (fun vs H Q E h => ?_) (fun cdv A outer s H vs Q E hr h => ?_)
  · obtain ⟨p, b, ds, ns, rfl, _⟩ := h
    rfl
  · obtain ⟨p, b, ds, ns, rfl, hw, ok, h12, hA, hb, h60, k⟩ := h
    refine ⟨_, PSs.nox (pss_cons (ps_set (i := 2) sc_leastC.nd rfl (Or.inl rfl) (pe_call GCL hr (by rfl) mCL FCL.kp bCL .nil pass0 (pa_cons (pv 0) (pa_cons (pv 1) pa_nil))))
      (pss_cons (ps_for PassesOwn.never rfl (pi_range1 (by rfl) B.range (pa_cons (pe_callB call_len_seq (by rfl) B.len PySem.boot_len (pa_cons (pe_fld (pv 0) rfl) pa_nil)) pa_nil)) (pg_name (i := 3) sc_leastC.nd rfl (Or.inl rfl))
        (pss_one (ps_if (pt_cmp (pc_gt (pe_callB call_len_seq (by rfl) B.len PySem.boot_len (pa_cons (pe_call GAm (hr.mono (by decide)) (by rfl) mAm FAm.kp bAm .nil pass0 (pa_cons (pv 0) (pa_cons (pv 2) (pa_cons (pv 3) pa_nil)))) pa_nil)) pe_int))
          (pss_one (ps_set (i := 2) sc_leastC.nd rfl (Or.inl rfl) (pe_op (r := rCatQ K) op_catQ (pv 2) (pe_tup (pa_cons (pv 3) pa_nil))))) pss_nil)))
      (pss_one (ps_ret (pe_callTy (T := "tuple") (r := rTupOf K) (call_tup (X := _)) (by rfl) B.tuple (by decide +kernel) (pa_cons (pe_callB (r := rSortSI K) (call_sortedSI (X := _)) (by rfl) B.sorted (by decide +kernel) (pa_cons (pv 2) pa_nil)) pa_nil)))))), ?_⟩
    refine ⟨_, rfl, _, rfl, p, b, ds, ns, rfl, hw, h12, hA, hb, h60, fun t H1 s1 ht => ?_⟩
    have hw1 := hw.mono s1
    obtain ⟨dx, ac, ab, ao, am, ae, ah, cs, bs, ms, es, hs, h1, h2, h3, _⟩ := hw1
    have lcs : cs.length = ds.length := h3.len
    have ul := upS_len (n := ds.length) (xs := ns)
    have und : (upS ds.length ns).Nodup := up_nodup upS_up
    have ult : ∀ x ∈ upS ds.length ns, x < ds.length := fun x hx => hb x ((upS_mem hb).mp hx)
    generalize hU : upS ds.length ns = U at *
    refine ⟨_, rfl, p, C, dx, _, _, rfl, h1, TC.cl, TC.no _ (List.mem_of_getElem? (i := 0) rfl), rfl, ac, cs, rfl, .inr (SqT.of h2), cs.length, rfl, by omega, by omega, ?_⟩
    rw [lcs]
    refine for_range (n := ds.length) (fun i σ H' => Same H1 H' ∧ ∃ (t : Addr) (x3 : Option V), σ = [some (.ref p), some (.ref b), some (.ref t), x3] ∧ H' t = some (.tup ((keptUp ds U i).map natV))) ⟨Same.refl _, t, _, rfl, ht⟩ ?_ ?_
    · rintro i σ H2 hi ⟨s2, t, x3, rfl, ht2⟩
      have ei : (0 : Int) + (i : Int) = (i : Int) := by omega
      rw [ei]
      refine ⟨_, rfl, _, rfl, _, rfl, p, t, ds, keptUp ds U i, i, rfl, (hw.mono s1).mono s2, ok, h12, hi, ht2, fun t3 H3 s3 ht3 => ⟨t3, _, rfl, .inr (SqT.of ht3), _, _, rfl, rfl, _, rfl, ?_⟩⟩
      have kl := kept_len (ds := ds) (L := U) i
      by_cases c1 : 1 < (amongL ds (keptUp ds U i) i).length
      · refine iteT' (decide_eq_true (by rw [List.length_map]; omega)) ⟨_, rfl, _, rfl, (by show 1 ≤ sizeLine; decide), fun T hT => ?_⟩
        have sT := same_new (o := .tup [natV i]) hT
        refine cat_q (xs := (keptUp ds U i).map natV) (ys := [natV i]) (sT _ _ (s3 _ _ ht2)) upd_same (by rw [List.length_map]; show _ + 1 ≤ 2 ^ 24; omega) (Same.refl _) fun t4 H4 s4 ht4 => ⟨((s2.trans s3).trans sT).trans s4, t4, _, rfl, ?_⟩
        rw [show keptUp ds U (i + 1) = keptUp ds U i ++ [i] from if_pos c1, List.map_append]
        exact ht4
      · refine iteF' (decide_eq_false (by rw [List.length_map]; omega)) ⟨s2.trans s3, t, _, rfl, ?_⟩
        rw [show keptUp ds U (i + 1) = keptUp ds U i from if_neg c1]
        exact s3 _ _ ht2
    · rintro σ H2 ⟨s2, t, x3, rfl, ht2⟩
      refine ⟨_, rfl, t, (keptL ds U).map (fun (n : Nat) => (n : Int)), rfl, .inr (by rw [List.map_map]; exact SqT.of ht2), fun ys q perm asc hq => ?_⟩
      have nd := kept_nodup (ds := ds) und ds.length (Nat.le_refl _)
      have ndi : ((keptL ds U).map (fun (n : Nat) => (n : Int))).Nodup := nodup_cast nd
      have ysn : ys.Nodup := perm.nodup_iff.mpr ndi
      have asc' : ys.Pairwise (· < ·) := by
        refine (List.pairwise_and_iff.mpr ⟨asc, ysn⟩).imp fun ⟨a, b⟩ => ?_
        omega
      have ey : ys.map V.int = (dueL ds U).map natV := asc_one asc' upS_up fun k => by
        rw [perm.mem_iff, List.mem_map]
        exact ⟨fun ⟨n, hn, e⟩ => ⟨n, (due_mem ult).mpr hn, e.symm⟩, fun ⟨n, hn, e⟩ => ⟨n, (due_mem ult).mp hn, e.symm⟩⟩
      have sq := same_new (o := .lst (ys.map V.int)) hq
      exact tup_q (.inl upd_same) fun t5 H5 s5 ht5 => k t5 H5 (((s1.trans s2).trans sq).trans s5) (by rw [← ey]; exact ht5)
end
end K59

set_option maxRecDepth 100000
set_option maxHeartbeats 8000000
namespace K59
open PySem PySem.Spec PyProof.Rows L2 Kw LamX
theorem set_if {σ : L2.St} {H : Hp} {c : TT} {t e rest : TS} {D : Ends} (Inv : L2.St → Hp → Prop) (k : ∀ σ H, Inv σ H → rest D σ H) (h : ∀ N : L2.St → Hp → Prop, (∀ σ H, Inv σ H → N σ H) → tIfS c t e { D with nx := N } σ H) : tSeq (tIfS c t e) rest D σ H := h _ k
theorem type_list_pop : typeOf (.builtin "list.pop") = pure (.type "method_descriptor") := PySem.F.type_list_pop
theorem pop_at {k n : Nat} (h : k < n) : seqIndex? (k : Int) n = some k := by
  have := PySem.seqIndex_of (k := (k : Int)) (n := n) (by omega) (by omega)
  rw [Int.toNat_natCast] at this
  exact this
theorem eraseIdx_map {l : List Nat} {i : Nat} : (l.map natV).eraseIdx i = (l.eraseIdx i).map natV := by
  induction l generalizing i with
  | nil => rfl
  | cons a r ih =>
    cases i with
    | zero => rfl
    | succ i => exact congrArg (natV a :: ·) ih
theorem erase_or : ∀ {l : List Nat} {i y x : Nat} {M : Prop}, l[i]? = some y → ((x ∈ l ∨ M) ↔ (x ∈ l.eraseIdx i ∨ (M ∨ x = y)))
  | a :: r, 0, y, x, M, h => by
    obtain rfl := Option.some.inj h
    show (x ∈ a :: r ∨ M) ↔ (x ∈ r ∨ (M ∨ x = a))
    rw [List.mem_cons]
    exact ⟨fun z => z.elim (fun z => z.elim (fun e => .inr (.inr e)) .inl) fun m => .inr (.inl m), fun z => z.elim (fun z => .inl (.inr z)) fun z => z.elim .inr fun e => .inl (.inl e)⟩
  | a :: r, i + 1, y, x, M, h => by
    have ih := erase_or (l := r) (i := i) (y := y) (x := x) (M := M) h
    show (x ∈ a :: r ∨ M) ↔ (x ∈ a :: r.eraseIdx i ∨ (M ∨ x = y))
    rw [List.mem_cons, List.mem_cons, or_assoc, or_assoc, ih]
theorem take_anyN {p : List Nat → Bool} {Ms : List (List Nat)} {j : Nat} {M : List Nat} (h : Ms[j]? = some M) : (Ms.take (j + 1)).filter p = (Ms.take j).filter p ++ (if p M = true then [M] else []) := by
  rw [List.take_add_one, h, Option.toList_some, List.filter_append]
  congr 1
  cases c : p M with
  | true => rw [List.filter_cons_of_pos (by exact c)]; rfl
  | false => rw [List.filter_cons_of_neg (by rw [c]; decide)]; rfl
section
variable {P : Program} {w : World} {K : PySem.W.Frag} {mg : Str → Option Value} {base : Heap} {f fT fTo fRo : Addr} {fd fdT fdTo fdRo : FuncData}
def spLUncl : Sp := fun vs H Q _ => ∃ (a r : Addr) (us : List V) (ds : List Ent) (L : List Nat), vs = [.ref a, .ref r] ∧ H a = some (.lst us) ∧ ListsAt H us (elsOf ds) ∧ DsOk ds ∧ ds.length ≤ 12 ∧ H r = some (.lst (L.map natV)) ∧
  ∀ D H', Same H H' → H D = none → H' D = some (.lst ((unclearL ds L).map natV)) → Q (.ref D) H'
theorem sc_lUncl : FnScope ["_law_elders_here", "_law_lot", "_law_found", "_law_c", "_law_one"] ["_law_elders_here", "_law_lot"] (defScope (top 44)) := ⟨rfl, rfl, rfl, by decide +kernel, rfl, by decide +kernel, by decide +kernel⟩
theorem ok_lUncl (F : FnP K "_law_unclear" 44 f fd) (B : Fr mg) (FTo : FnP K "_law_tops" 43 fTo fdTo) (mTo : mg "_law_tops" = some (.ref fTo)) (GTo : FnOk P w K mg base CX0 1 fTo fdTo ["_law_elders_here", "_law_lot"] spTopsG) : FnOk P w K mg base CX0 2 f fd ["_law_elders_here", "_law_lot"] spLUncl := by
  have bTo : L2.Binds K fdTo ["_law_elders_here", "_law_lot"] [] := FTo.bindsN fun _ _ _ _ _ _ us hl => match us, hl with | [_, _], _ => rfl
  refine F.ok sc_lUncl (fun vs H Q E h => ?_) (fun cdv A outer s H vs Q E hr h => ?_)
  · obtain ⟨a, r, us, ds, L, rfl, _⟩ := h
    rfl
  · obtain ⟨a, r, us, ds, L, rfl, hA, hL, ok, h12, hR, k⟩ := h
    refine ⟨_, PSs.nox (pss_cons (ps_set (i := 2) sc_lUncl.nd rfl (Or.inl rfl) (pe_lst pa_nil))
      (pss_cons (ps_for PassesOwn.never rfl (pi_range1 (by rfl) B.range (pa_cons (pe_callB call_len_seq (by rfl) B.len PySem.boot_len (pa_cons (pv 0) pa_nil)) pa_nil)) (pg_name (i := 3) sc_lUncl.nd rfl (Or.inl rfl))
        (pss_one (ps_if (pt_cmp (pc_gt (pe_callB call_len_seq (by rfl) B.len PySem.boot_len (pa_cons (pe_call GTo hr (by rfl) mTo FTo.kp bTo .nil pass0 (pa_cons (pv 0) (pa_cons
            (pe_lc (own := [("_law_one", 4)]) (g := gName 4) (tt := tTest (tOp (rIn K false) (tVar 4) (tVar 1))) (te := tVar 4) rfl sc_lUncl.nd (pi_list (pe_op op_cat (pe_ix (r := rIxL K) ix_list (pv 0) (pv 3) (fun _ _ => rfl)) (pe_lst (pa_cons (pv 3) pa_nil)))) (blkOk_by (N := ["_law_elders_here", "_law_lot", "_law_found", "_law_c", "_law_one"]) (sc := defScope (top 44)) (by decide +kernel))
              (fun _ _ _ _ _ => pg_name (i := 4) sc_lUncl.nd rfl (Or.inl rfl)) (fun _ _ _ _ _ => pts_one (pt_cmpR (r := rIn K false) op_in_seq (pv 4) (pv 1) (by rfl))) (fun _ _ _ _ _ => pv 4)) pa_nil))) pa_nil)) pe_int))
          (pss_one (ps_expr (pe_bm PySem.F.plainAttrs_list PySem.F.slot_list_append PySem.F.type_list_append mt_append (pv 2) (pa_cons (pv 3) pa_nil)))) pss_nil)))
      (pss_one (ps_ret (pv 2))))), ?_⟩
    refine ⟨(by show 0 ≤ sizeLine; decide), fun T hT => ?_⟩
    have sT := same_new (o := .lst []) hT
    have ul : us.length = ds.length := by rw [hL.len, elsOf_len]
    refine ⟨_, rfl, a, us, rfl, .inl (SqL.of (sT _ _ hA)), us.length, rfl, by omega, by omega, ?_⟩
    refine for_range (n := us.length) (fun i σ H' => Same H H' ∧ ∃ x3, σ = [some (.ref a), some (.ref r), some (.ref T), x3, none] ∧ H' T = some (.lst (((List.range i).filter fun c => decide (1 < (amongL ds L c).length)).map natV))) ⟨sT, _, rfl, upd_same⟩ ?_ ?_
    · rintro i σ H1 hi ⟨s1, x3, rfl, hT1⟩
      have ei : (0 : Int) + (i : Int) = (i : Int) := by omega
      rw [ei]
      have il : i < ds.length := by omega
      obtain ⟨row, hrow⟩ : ∃ row, (elsOf ds)[i]? = some row := ⟨_, List.getElem?_eq_getElem (by rw [elsOf_len]; exact il)⟩
      obtain ⟨t, et, ht⟩ := hL.get hrow
      have hgd : (elsOf ds).getD i [] = row := by
        rw [List.getD_eq_getElem?_getD, hrow]
        rfl
      have ek := kins_els (ds := ds) il
      rw [hgd] at ek
      have kl := kin_len ok il h12
      have rl : row.length + 1 ≤ 12 := by
        rw [ek, List.length_append] at kl
        exact kl
      refine ⟨_, rfl, _, rfl, _, rfl, a, us, (i : Int), _, rfl, rfl, SqL.of (s1 _ _ hA), atI_nat et, ?_⟩
      refine ⟨_, rfl, (by show 1 ≤ 2 ^ 24; decide), fun L1 hL1 => ?_⟩
      have sL := same_new (o := .lst [V.int (i : Int)]) hL1
      refine ⟨t, L1, _, _, rfl, rfl, sL _ _ (s1 _ _ ht), upd_same, (by rw [List.length_map]; show _ + 1 ≤ 2 ^ 24; omega), fun N1 hN1 => ?_⟩
      have sN := same_new (o := .lst (row.map natV ++ [V.int (i : Int)])) hN1
      have eN : row.map natV ++ [V.int (i : Int)] = ((kins (elsOf ds)).getD i []).map natV := by
        rw [ek, List.map_append]
        rfl
      have hN : upd (upd H1 L1 (.lst [V.int (i : Int)])) N1 (.lst (row.map natV ++ [V.int (i : Int)])) N1 = some (.lst (((kins (elsOf ds)).getD i []).map natV)) := by
        rw [upd_same, eN]
      have s2 := sL.trans sN
      generalize upd (upd H1 L1 (.lst [V.int (i : Int)])) N1 (.lst (row.map natV ++ [V.int (i : Int)])) = H2 at hN s2 ⊢
      refine ⟨N1, rfl, ⟨_, SqL.of hN⟩, fun D hD => lc_list (K := K) (a := N1) (xs := ((kins (elsOf ds)).getD i []).map natV) (fun j H' => Same H2 H' ∧ H' D = some (.lst (((((kins (elsOf ds)).getD i []).take j).filter fun k => L.contains k).map natV))) ⟨same_new hD, upd_same⟩ (fun j H' _ z => SqL.of (z.1 _ _ hN)) ?_ ?_⟩
      · rintro j v H3 hj ⟨s3, hD3⟩
        rw [List.getElem?_map] at hj
        obtain ⟨x, hx, rfl⟩ := Option.map_eq_some_iff.mp hj
        refine ⟨rfl, _, rfl, _, rfl, r, _, rfl, .inl (SqL.of (((s1.trans s2).trans s3) _ _ hR)), rfl, flat_nats _, _, rfl, ?_⟩
        have ein : inV (natV x) (L.map natV) = L.contains x := inV_nat _ _
        show (if inV (natV x) (L.map natV) = true then _ else _)
        rw [ein]
        have st := take_filterN (p := fun k => L.contains k) hx
        cases hb : L.contains x with
        | true =>
          rw [hb, if_pos rfl] at st
          refine iteT' rfl ⟨_, rfl, _, hD3, ?_, same_upd s3 hD, by rw [st, List.map_append, upd_same]; rfl⟩
          rw [List.length_map]
          refine Nat.lt_of_le_of_lt (List.length_filter_le _ _) ?_
          rw [List.length_take]
          show _ < 2 ^ 24
          omega
        | false =>
          rw [hb, if_neg (by decide), List.append_nil] at st
          exact iteF' rfl ⟨s3, by rw [st]; exact hD3⟩
      · rintro H3 ⟨s3, hD3⟩
        rw [List.length_map, List.take_length] at hD3
        have s13 := (s1.trans s2).trans s3
        have ile := inKin_len ok (L := L) il h12
        refine ⟨a, D, us, elsOf ds, inKin ds L i, rfl, s13 _ _ hA, ListsAt.sameN s13 hL, hD3, fun x hx => by have := inKin_le il hx; rw [elsOf_len]; omega, by omega, by rw [elsOf_len]; exact h12, fun E H4 s4 hE => ?_⟩
        rw [tops_same (inKin_up il) (fun x hx => by have := inKin_le il hx; rw [elsOf_len]; omega)] at hE
        refine ⟨E, _, rfl, .inl (SqL.of hE), _, _, rfl, rfl, _, rfl, ?_⟩
        have st := filter_takeN (fun c => decide (1 < (amongL ds L c).length)) i
        have hT4 := ((s2.trans s3).trans s4) _ _ hT1
        by_cases c1 : 1 < (amongL ds L i).length
        · rw [if_pos (decide_eq_true c1)] at st
          refine iteT' (decide_eq_true (by rw [List.length_map]; exact Int.ofNat_lt.mpr c1)) ⟨_, rfl, .inl ⟨rfl, _, SqL.of hT4⟩, _, rfl, T, _, _, rfl, rfl, hT4, ?_, same_upd (s13.trans s4) hT, _, rfl, by rw [st, List.map_append, upd_same]; rfl⟩
          rw [List.length_map]
          refine Nat.lt_of_le_of_lt (List.length_filter_le _ _) ?_
          rw [List.length_range]
          show _ < 2 ^ 24
          omega
        · rw [if_neg (by rw [decide_eq_true_eq]; exact c1), List.append_nil] at st
          exact iteF' (decide_eq_false (by rw [List.length_map]; exact fun z => c1 (Int.ofNat_lt.mp z))) ⟨s13.trans s4, _, rfl, by rw [st]; exact hT4⟩
    · rintro σ H1 ⟨s1, x3, rfl, hT1⟩
      rw [ul] at hT1
      exact ⟨_, rfl, k T H1 s1 hT hT1⟩
def spGiven : Sp := fun vs H Q _ => ∃ (p q l : Addr) (lot : List Nat), vs = [.ref p, .ref l] ∧ HandAt H p q ∧ l ≠ p ∧ H l = some (.lst (lot.map natV)) ∧ lot.length ≤ 12 ∧
  ∀ (g : Addr) (H' : Hp) (ns : List Nat), Oth p H H' → HandAt H' p q → SeqAt H' g (ns.map natV) → (∀ x, x ∈ ns ↔ x ∈ lot) → ns.length ≤ lot.length + 1 → Q (.ref g) H'
def spShared : Sp := fun vs H Q _ => ∃ (l : Addr) (us : List V) (Ms : List (List Nat)) (n : Nat), vs = [.ref l, natV n] ∧ H l = some (.lst us) ∧ ListsAt H us Ms ∧ Ms.length ≤ 64 ∧ n ≤ 12 ∧
  ∀ D H', Same H H' → H' D = some (.lst ((sharedL n Ms).map natV)) → Q (.ref D) H'
end
end K59

set_option maxRecDepth 100000
set_option maxHeartbeats 16000000
namespace K59
open PySem PySem.Spec PyProof.Rows L2 Kw LamX
/-- all stays but the hand's list and the tables; these hold what they may -/
def KJ (T : List (Addr × Str)) (H H' : Hp) : Prop := (∀ b o, H b = some o → ¬ HandLike o → (∀ ps, o ≠ .tbl ps) → H' b = some o) ∧ (Tabs T H → Tabs T H')
section
variable {T : List (Addr × Str)} {H H' H1 H2 : Hp}
theorem KJ.trans (a : KJ T H H1) (b : KJ T H1 H2) : KJ T H H2 := ⟨fun c o e n t => b.1 c o (a.1 c o e n t) n t, fun z => b.2 (a.2 z)⟩
theorem KJ.of (s : Same H H') : KJ T H H' := ⟨fun b o e _ _ => s b o e, fun z => z.ext s⟩
theorem KJ.ext (e : ExtN H H') (t : Tabs T H') : KJ T H H' := ⟨fun b o z _ n => e b o z n, fun _ => t⟩
theorem KJ.oth {p q : Addr} (O : Oth p H H') (h : HandAt H p q) : KJ T H H' := by
  obtain ⟨cs, i, r, t, h1, _⟩ := h
  refine ⟨fun b o e n _ => O b o (fun z => ?_) e, fun z x hx => ?_⟩
  · rw [z, h1] at e
    exact n ⟨_, _, _, _, (Option.some.inj e).symm⟩
  · obtain ⟨ps, e1, e2, e3⟩ := z x hx
    refine ⟨ps, O _ _ (fun y => by rw [y, h1] at e1; cases e1) e1, e2, fun pos cv hc => ?_⟩
    obtain ⟨c, f1, f2⟩ := e3 pos cv hc
    exact ⟨c, f1, O _ _ (fun y => by rw [y, h1] at f2; unfold CodeO at f2; cases f2) f2⟩
theorem KJ.updN {O : Addr} {xs ys : List V} (k : KJ T H H1) (hO : H O = none) (h1 : H1 O = some (.lst xs)) : KJ T H (upd H1 O (.lst ys)) := ⟨fun b o e n t => upB (ne_of_none e hO) (k.1 b o e n t), fun z x hx => by
  obtain ⟨ps, e1, e2, e3⟩ := k.2 z x hx
  refine ⟨ps, upB (fun y => by rw [y, h1] at e1; cases e1) e1, e2, fun pos cv hc => ?_⟩
  obtain ⟨c, f1, f2⟩ := e3 pos cv hc
  exact ⟨c, f1, upB (fun y => by rw [y, h1] at f2; unfold CodeO at f2; cases f2) f2⟩⟩
theorem nt_tup {xs : List V} : ∀ ps, HO.tup xs ≠ .tbl ps := fun ps z => by cases z
theorem nt_lst {xs : List V} : ∀ ps, HO.lst xs ≠ .tbl ps := fun ps z => by cases z
theorem nt_ins {C dx : Addr} {fs : List (Str × V)} : ∀ ps, HO.ins C dx fs ≠ .tbl ps := fun ps z => by cases z
theorem RwN.kj {R : Addr} (k : KJ T H H') : ∀ {vs : List V} {ls : List Ent}, RwN R H vs ls → RwN R H' vs ls
  | [], [], _ => .nil
  | _ :: _, _ :: _, .cons ⟨t, b, m, e, n1, h1, n2, h2, n3, h3⟩ r => .cons ⟨t, b, m, e, n1, k.1 _ _ h1 nh_tup nt_tup, n2, k.1 _ _ h2 nh_nats nt_lst, n3, k.1 _ _ h3 nh_nats nt_lst⟩ (RwN.kj k r)
theorem ListsAt.kj (k : KJ T H H') : ∀ {vs : List V} {ls : List (List Nat)}, ListsAt H vs ls → ListsAt H' vs ls
  | [], [], _ => .nil
  | _ :: _, _ :: _, .cons ⟨t, e, h⟩ r => .cons ⟨t, e, k.1 _ _ h nh_nats nt_lst⟩ (ListsAt.kj k r)
theorem WorldAt.kj {p C : Addr} {ds : List Ent} (h : WorldAt H p C ds) (k : KJ T H H') : WorldAt H' p C ds := by
  have kt : TupK H H' := fun b xs e => k.1 b _ e nh_tup nt_tup
  obtain ⟨dx, ac, ab, ao, am, ae, ah, cs, bs, ms, es, hs, h1, h2, h3, h4, h5, h6, h7, h8, h9, h10, h11, h12⟩ := h
  exact ⟨dx, ac, ab, ao, am, ae, ah, cs, bs, ms, es, hs, k.1 _ _ h1 nh_ins nt_ins, kt _ _ h2, h3.mono kt, kt _ _ h4, h5.mono kt, kt _ _ h6, kt _ _ h7, h8.mono kt, kt _ _ h9, h10.mono kt, kt _ _ h11, h12.mono kt⟩
theorem HandAt.extN {p q : Addr} (h : HandAt H p q) (e : ExtN H H') : HandAt H' p q := by
  obtain ⟨cs, i, r, t, h1, h2, rest⟩ := h
  exact ⟨cs, i, r, t, e _ _ h1 nt_lst, e _ _ h2 nt_lst, rest⟩
end
theorem Sm.list {n b l : Nat} {ds : List PyData} (h : ∀ d ∈ ds, Sm n b d) (hl : ds.length ≤ l) : Sm (n + 1) (l * (b + 1)) (.list ds) := by
  obtain ⟨h1, h2, h3, h4, h5⟩ := sm_all h
  have := Nat.mul_le_mul_right (b + 1) hl
  exact ⟨by simpa [PyData.canLay0] using h1, by simp only [PyData.depth]; omega, by simp only [PyData.weight]; omega, by simpa [PyData.intsShort] using h4, by simpa [PyData.showable] using h5⟩
theorem sm_nl {l : List Nat} {n : Nat} (h : ∀ x ∈ l, x < 16) (hl : l.length ≤ n) : Sm 1 (n * 5) (.list (l.map dN)) := Sm.list (n := 0) (b := 4) (fun d hd => by
  obtain ⟨x, hx, rfl⟩ := List.mem_map.mp hd
  exact Sm.nat (h x hx)) (by rw [List.length_map]; exact hl)
/-- what a lot prints, be it a list or a tuple -/
theorem seq_dp {H : Hp} {g : Addr} {ns : List Nat} {n : Nat} (h : SeqAt H g (ns.map natV)) (hn : ∀ x ∈ ns, x < 16) (hl : ns.length ≤ n) : ∃ d, Sm 1 (n * 5) d ∧ ∀ (K : PySem.W.Frag) (H' : Hp), (∀ o, H g = some o → H' g = some o) → Dp K H' (.ref g) d := by
  rcases h with h | h
  · exact ⟨_, sm_nl hn hl, fun K H' z => .lst (SqL.of (z _ h)) (dp_nats _)⟩
  · exact ⟨_, sm_ns hn hl, fun K H' z => .tup (SqT.of (z _ h)) (dp_nats _)⟩
theorem lay_nl (r : List Nat) : LayD 1 (dR false r) := LayD.lst fun d hd => by
  obtain ⟨n, _, rfl⟩ := List.mem_map.mp hd
  exact .int _
theorem lay_nls (ls : List (List Nat)) : LayD 2 (.list (ls.map (dR false))) := LayD.lst fun d hd => by
  obtain ⟨n, _, rfl⟩ := List.mem_map.mp hd
  exact lay_nl n
theorem any_in {ls : List (List Nat)} {r : List Nat} (h : r ∈ ls) : ((ls.map (dR false)).any fun z => PyData.eqv z (dR false r)) = true := List.any_eq_true.mpr ⟨dR false r, List.mem_map.mpr ⟨r, h, rfl⟩, (lay_nl r).refl⟩
theorem eqv_nil (r : List Nat) : PyData.eqv (dR false r) (.list []) = r.isEmpty := by
  cases r with
  | nil => decide +kernel
  | cons a t => simp [dR, PyData.eqv, PyData.eqvAll]
def lotsIn (lot : List Nat) (M : List Nat) : Bool := !(lot.any fun c => !M.contains c)
theorem lotsIn_iff {lot M : List Nat} : lotsIn lot M = true ↔ ∀ x ∈ lot, x ∈ M := by
  unfold lotsIn
  rw [Bool.not_eq_true', ← Bool.not_eq_true, List.any_eq_true]
  constructor
  · intro z x hx
    apply Classical.byContradiction
    intro q
    refine z ⟨x, hx, ?_⟩
    rw [Bool.not_eq_true', ← Bool.not_eq_true, List.contains_iff_mem]
    exact q
  · rintro z ⟨x, hx, y⟩
    rw [Bool.not_eq_true', ← Bool.not_eq_true, List.contains_iff_mem] at y
    exact y (z x hx)
theorem notIn_two {x a b : Str} (h : x = a ∨ x = b) : (!inV (.str x) [.str a, .str b]) = false := by
  unfold inV
  rcases h with rfl | rfl
  · simp [eqV]
  · simp [eqV]
end K59

set_option maxRecDepth 100000
set_option maxHeartbeats 8000000
namespace K59
open PySem PySem.Spec PyProof.Rows L2 Kw LamX
/-! ### sorted of couples -/
def keyP (H : Hp) : V → Int × Int
  | .ref t => match H t with
    | some (.tup [.int i, .int j]) => (i, j)
    | _ => (0, 0)
  | _ => (0, 0)
theorem keyP_at {H : Hp} {t : Addr} {i j : Nat} (h : H t = some (.tup [natV i, natV j])) : keyP H (.ref t) = ((i : Int), (j : Int)) := by
  show (match H t with | some (.tup [.int i, .int j]) => (i, j) | _ => (0, 0)) = _
  rw [h]
  rfl
theorem PairsAt.mem {H : Hp} : ∀ {us : List V} {ps : List (Nat × Nat)}, PairsAt H us ps → ∀ x ∈ us, ∃ t i j, x = .ref t ∧ H t = some (.tup [natV i, natV j])
  | [], [], _, x, hx => by cases hx
  | _ :: _, _ :: _, .cons ⟨t, e, h⟩ r, x, hx => by
    rcases List.mem_cons.mp hx with rfl | hx
    · exact ⟨t, _, _, e, h⟩
    · exact PairsAt.mem r x hx
def natP (H : Hp) (v : V) : Nat × Nat := ((keyP H v).1.toNat, (keyP H v).2.toNat)
theorem PairsAt.of_mem {H : Hp} : ∀ {us : List V}, (∀ x ∈ us, ∃ t i j, x = .ref t ∧ H t = some (.tup [natV i, natV j])) → PairsAt H us (us.map (natP H))
  | [], _ => .nil
  | u :: us, h => by
    obtain ⟨t, i, j, e, ht⟩ := h u List.mem_cons_self
    refine .cons ⟨t, e, ?_⟩ (PairsAt.of_mem fun x hx => h x (List.mem_cons_of_mem _ hx))
    rw [e]
    unfold natP
    rw [keyP_at ht]
    exact ht
theorem PairsAt.nats {H : Hp} : ∀ {us : List V} {ps : List (Nat × Nat)}, PairsAt H us ps → us.map (natP H) = ps
  | [], [], _ => rfl
  | _ :: _, (i, j) :: _, .cons ⟨t, e, h⟩ r => by
    rw [List.map_cons, PairsAt.nats r, e]
    unfold natP
    rw [keyP_at h]
    rfl
def rSortPs (K : PySem.W.Frag) : List V → Hp → VK → Prop := fun vs H Q => ∃ (a : Addr) (us : List V) (ps : List (Nat × Nat)), vs = [.ref a] ∧ SqL K H a us ∧ PairsAt H us ps ∧ ps.Nodup ∧
  ∀ (ys : List V) (qs : List (Nat × Nat)) (p : Addr), PairsAt H ys qs → qs.Perm ps → SortP qs → H p = none → Q (.ref p) (upd H p (.lst ys))
theorem call_sortPs {X : Cx} : CallR X (.builtin "sorted") (rSortPs X.K) := fun pins s σ H xs us0 Q I r q => by
  obtain ⟨a, us, ps, rfl, hS, hP, nd, k⟩ := q
  refine cr_sortedPO pins s σ H _ us0 Q I r ⟨a, us, keyP H, rfl, hS, fun x hx => ?_, fun ys p h1 h2 hp => ?_⟩
  · obtain ⟨t, i, j, rfl, ht⟩ := hP.mem x hx
    refine ⟨t, rfl, ?_⟩
    rw [keyP_at ht]
    exact ht
  · have pm : ys.Perm us := h2.perm
    have hm : ∀ x ∈ ys, ∃ t i j, x = .ref t ∧ H t = some (.tup [natV i, natV j]) := fun x hx => hP.mem x (pm.mem_iff.mp hx)
    have e : (ys.map (natP H)).Perm ps := by
      have := pm.map (natP H)
      rw [hP.nats] at this
      exact this
    refine k ys _ p (PairsAt.of_mem hm) e ?_ hp
    have nd2 : (ys.map (natP H)).Nodup := e.nodup_iff.mpr nd
    have c := (List.pairwise_map.mp nd2).and h1
    refine List.pairwise_map.mpr (List.Pairwise.imp_of_mem (fun {x y} hx hy z => ?_) c)
    obtain ⟨t, i, j, rfl, ht⟩ := hm x hx
    obtain ⟨t', i', j', rfl, ht'⟩ := hm y hy
    have z1 := z.1
    have z2 := SrtO.lexB_no.mp z.2
    unfold natP at z1 ⊢
    rw [keyP_at ht, keyP_at ht'] at z1 z2 ⊢
    have z1 : ¬ ((i : Nat), (j : Nat)) = ((i' : Nat), (j' : Nat)) := z1
    have z2 : ¬ ((i' : Int) < (i : Int) ∨ ((i' : Int) = (i : Int) ∧ (j' : Int) < (j : Int))) := z2
    show i < i' ∨ (i = i' ∧ j < j')
    have z3 : ¬ (i = i' ∧ j = j') := fun ⟨a, b⟩ => z1 (by rw [a, b])
    omega
/-! ### methods that clear a world: mathematics -/
def missM (ds : List Ent) (m : Nat) : List Nat := (dueL ds (rowL ds m)).filter fun c => !(rowL ds m).contains c
def missP (ds : List Ent) : List (Nat × Nat) := (List.range ds.length).flatMap fun c => ((List.range 6).filter fun m => (missM ds m).contains c).map fun m => (c, m)
def foundUp (ds : List Ent) (k : Nat) : List (Nat × Nat) := (List.range k).flatMap fun m => (missM ds m).map fun c => (c, m)
theorem due_lt {ds : List Ent} {L : List Nat} {x : Nat} (h : x ∈ dueL ds L) : x < ds.length := List.mem_range.mp (List.mem_filter.mp h).1
theorem due_base {ds : List Ent} {L : List Nat} (hL : ∀ x ∈ L, x < ds.length) {x : Nat} (h : x ∈ L) : x ∈ dueL ds L := (due_mem hL).mpr (kept_base h _)
theorem miss_mem {ds : List Ent} {m c : Nat} : c ∈ missM ds m ↔ c ∈ dueL ds (rowL ds m) ∧ c ∉ rowL ds m := by
  unfold missM
  rw [List.mem_filter, Bool.not_eq_true', ← Bool.not_eq_true, List.contains_iff_mem]
theorem miss_lt {ds : List Ent} {m c : Nat} (h : c ∈ missM ds m) : c < ds.length := due_lt (miss_mem.mp h).1
theorem miss_up {ds : List Ent} {m : Nat} : (missM ds m).Pairwise (· < ·) := List.Pairwise.filter _ upS_up
theorem missP_mem {ds : List Ent} {p : Nat × Nat} : p ∈ missP ds ↔ p.2 < 6 ∧ p.1 ∈ missM ds p.2 := by
  obtain ⟨c, m⟩ := p
  unfold missP
  rw [List.mem_flatMap]
  constructor
  · rintro ⟨x, hx, h⟩
    obtain ⟨y, hy, e⟩ := List.mem_map.mp h
    obtain ⟨rfl, rfl⟩ := Prod.mk.inj e
    obtain ⟨h1, h2⟩ := List.mem_filter.mp hy
    exact ⟨List.mem_range.mp h1, List.contains_iff_mem.mp h2⟩
  · rintro ⟨h1, h2⟩
    exact ⟨c, List.mem_range.mpr (miss_lt h2), List.mem_map.mpr ⟨m, List.mem_filter.mpr ⟨List.mem_range.mpr h1, List.contains_iff_mem.mpr h2⟩, rfl⟩⟩
theorem missP_sort {ds : List Ent} : SortP (missP ds) := by
  unfold missP SortP
  have z : (List.range ds.length).Pairwise (· < ·) := List.pairwise_lt_range
  refine List.pairwise_flatMap.mpr ⟨fun c _ => ?_, z.imp fun {a b} h x hx y hy => ?_⟩
  · refine List.pairwise_map.mpr ((List.Pairwise.filter _ List.pairwise_lt_range).imp fun h => .inr ⟨rfl, h⟩)
  · obtain ⟨m, _, rfl⟩ := List.mem_map.mp hx
    obtain ⟨n, _, rfl⟩ := List.mem_map.mp hy
    exact .inl h
theorem SortP.nodup {ps : List (Nat × Nat)} (h : SortP ps) : ps.Nodup := List.Pairwise.imp (fun {x y} z e => by subst e; omega) h
theorem found_mem {ds : List Ent} {k : Nat} {p : Nat × Nat} : p ∈ foundUp ds k ↔ p.2 < k ∧ p.1 ∈ missM ds p.2 := by
  obtain ⟨c, m⟩ := p
  unfold foundUp
  rw [List.mem_flatMap]
  constructor
  · rintro ⟨x, hx, h⟩
    obtain ⟨y, hy, e⟩ := List.mem_map.mp h
    obtain ⟨rfl, rfl⟩ := Prod.mk.inj e
    exact ⟨List.mem_range.mp hx, hy⟩
  · rintro ⟨h1, h2⟩
    exact ⟨m, List.mem_range.mpr h1, List.mem_map.mpr ⟨c, h2, rfl⟩⟩
theorem found_nodup {ds : List Ent} {k : Nat} : (foundUp ds k).Nodup := by
  unfold foundUp
  have z : (List.range k).Pairwise (· < ·) := List.pairwise_lt_range
  refine List.pairwise_flatMap.mpr ⟨fun m _ => ?_, z.imp fun {a b} h x hx y hy e => ?_⟩
  · refine List.pairwise_map.mpr ((miss_up (ds := ds) (m := m)).imp fun h e => ?_)
    have := (Prod.mk.inj e).1
    omega
  · obtain ⟨m, _, rfl⟩ := List.mem_map.mp hx
    obtain ⟨n, _, e2⟩ := List.mem_map.mp hy
    rw [← e2] at e
    have := (Prod.mk.inj e).2
    omega
theorem found_succ {ds : List Ent} {k : Nat} : foundUp ds (k + 1) = foundUp ds k ++ (missM ds k).map fun c => (c, k) := by
  unfold foundUp
  rw [List.range_succ, List.flatMap_append, List.flatMap_cons, List.flatMap_nil, List.append_nil]
theorem found_sorted {ds : List Ent} {qs : List (Nat × Nat)} (p : qs.Perm (foundUp ds 6)) (s : SortP qs) : qs = missP ds := sortP_one s missP_sort fun x => by rw [p.mem_iff, found_mem, missP_mem]
theorem pairs_len {ps : List (Nat × Nat)} (nd : ps.Nodup) {n k : Nat} (h : ∀ p ∈ ps, p.1 < n ∧ p.2 < k) : ps.length ≤ n * k := by
  have := nodup_sub_len'' (ns := (List.range n).flatMap fun c => (List.range k).map fun m => (c, m)) nd fun p hp => by
    obtain ⟨h1, h2⟩ := h p hp
    exact List.mem_flatMap.mpr ⟨p.1, List.mem_range.mpr h1, List.mem_map.mpr ⟨p.2, List.mem_range.mpr h2, rfl⟩⟩
  have e : ((List.range n).flatMap fun c => (List.range k).map fun m => (c, m)).length = n * k := by
    rw [List.length_flatMap]
    clear this h nd
    induction n with
    | zero => simp
    | succ n ih =>
      rw [List.range_succ, List.map_append, List.sum_append, ih, Nat.succ_mul]
      simp
  omega
theorem missP_lt {ds : List Ent} {p : Nat × Nat} (h : p ∈ missP ds) : p.1 < ds.length ∧ p.2 < 6 := ⟨miss_lt (missP_mem.mp h).2, (missP_mem.mp h).1⟩
theorem missP_len {ds : List Ent} : (missP ds).length ≤ ds.length * 6 := pairs_len missP_sort.nodup fun p hp => missP_lt hp
theorem foundUp_len {ds : List Ent} {k : Nat} : (foundUp ds k).length ≤ ds.length * k := pairs_len found_nodup fun p hp => ⟨miss_lt (found_mem.mp hp).2, (found_mem.mp hp).1⟩
theorem row_mem {ds : List Ent} {m c : Nat} : c ∈ rowL ds m ↔ c < ds.length ∧ m ∈ methsOf ds c := by
  unfold rowL
  rw [List.mem_filter, List.mem_range, List.contains_iff_mem]
/-- answers are those among the definers -/
theorem ans_among {ds : List Ent} (ok : DsOk ds) {c m : Nat} (hc : c < ds.length) : ansL ds c m = amongL ds (rowL ds m) c := by
  have e : defL ds c m = inKin ds (rowL ds m) c := by
    unfold defL inKin
    refine List.filter_congr fun k hk => ?_
    have := kins_mem_lt ok hc hk
    rw [Bool.eq_iff_iff, List.contains_iff_mem, List.contains_iff_mem, row_mem]
    exact ⟨fun h => ⟨this, h⟩, fun h => h.2⟩
  show topsL (elsOf ds) (defL ds c m) = topsL (elsOf ds) (inKin ds (rowL ds m) c)
  rw [e]
theorem two_nil {ds : List Ent} (ok : DsOk ds) : twoUp ds ds.length = [] ↔ ∀ m, m < 6 → ClearL ds (rowL ds m) := by
  rw [List.eq_nil_iff_forall_not_mem]
  constructor
  · intro h m hm c hc
    apply Classical.byContradiction
    intro z
    refine h (c, m) (List.mem_flatMap.mpr ⟨c, List.mem_range.mpr hc, List.mem_map.mpr ⟨m, List.mem_filter.mpr ⟨List.mem_range.mpr hm, ?_⟩, rfl⟩⟩)
    rw [decide_eq_true_iff, ans_among ok hc]
    omega
  · rintro h p hp
    obtain ⟨c, hc, hp⟩ := List.mem_flatMap.mp hp
    obtain ⟨m, hm, rfl⟩ := List.mem_map.mp hp
    obtain ⟨h1, h2⟩ := List.mem_filter.mp hm
    have h2 := of_decide_eq_true h2
    rw [ans_among ok (List.mem_range.mp hc)] at h2
    have := h m (List.mem_range.mp h1) c (List.mem_range.mp hc)
    omega
theorem clear_row {ds : List Ent} (ok : DsOk ds) {L : List Nat} (up : L.Pairwise (· < ·)) (hL : ∀ x ∈ L, x < ds.length) : ClearL ds L ↔ dueL ds L = L := by
  constructor
  · intro h
    refine up_ext upS_up up fun x => ?_
    rw [due_mem hL]
    exact ⟨fun z => kept_least ok h (fun _ y => y) ds.length (Nat.le_refl _) x z, fun z => kept_base z _⟩
  · intro h
    exact clear_congr (fun x => by rw [← due_mem hL, h]) (kept_clear (ds := ds) (L := L))
theorem due_clear {ds : List Ent} {L : List Nat} (hL : ∀ x ∈ L, x < ds.length) : ClearL ds (dueL ds L) := clear_congr (fun x => (due_mem hL).symm) kept_clear
theorem miss_nil {ds : List Ent} (ok : DsOk ds) {m : Nat} : missM ds m = [] ↔ ClearL ds (rowL ds m) := by
  rw [clear_row ok rowL_up rowL_lt, List.eq_nil_iff_forall_not_mem]
  constructor
  · intro h
    refine up_ext upS_up rowL_up fun x => ⟨fun z => ?_, due_base rowL_lt⟩
    apply Classical.byContradiction
    intro y
    exact h x (miss_mem.mpr ⟨z, y⟩)
  · intro h x hx
    obtain ⟨h1, h2⟩ := miss_mem.mp hx
    rw [h] at h1
    exact h2 h1
theorem missP_nil {ds : List Ent} : missP ds = [] ↔ ∀ m, m < 6 → missM ds m = [] := by
  rw [List.eq_nil_iff_forall_not_mem]
  constructor
  · intro h m hm
    rw [List.eq_nil_iff_forall_not_mem]
    exact fun c hc => h (c, m) (missP_mem.mpr ⟨hm, hc⟩)
  · intro h p hp
    obtain ⟨h1, h2⟩ := missP_mem.mp hp
    rw [h _ h1] at h2
    cases h2
theorem miss_two {ds : List Ent} (ok : DsOk ds) : missP ds = [] ↔ twoUp ds ds.length = [] := by
  rw [missP_nil, two_nil ok]
  exact ⟨fun h m hm => (miss_nil ok).mp (h m hm), fun h m hm => (miss_nil ok).mpr (h m hm)⟩
/-! a class more -/
theorem row_more {ds : List Ent} {b : List Nat} {f m : Nat} : rowL (ds ++ [(b, f, [])]) m = rowL ds m := by
  refine up_ext rowL_up rowL_up fun x => ?_
  rw [row_mem, row_mem, List.length_append, List.length_singleton]
  by_cases h : x < ds.length
  · rw [meths_more h]
    exact ⟨fun z => ⟨h, z.2⟩, fun z => ⟨by omega, z.2⟩⟩
  · refine ⟨fun z => ?_, fun z => absurd z.1 h⟩
    obtain ⟨z1, z2⟩ := z
    obtain rfl : x = ds.length := by omega
    unfold methsOf at z2
    rw [List.getD_eq_getElem?_getD, List.getElem?_append_right (Nat.le_refl _), Nat.sub_self] at z2
    cases z2
theorem missP_more {ds : List Ent} {b : List Nat} {f : Nat} : ((missP (ds ++ [(b, f, [])])).filter fun p => decide (p.1 < ds.length)) = missP ds := by
  refine sortP_one (List.Pairwise.filter _ missP_sort) missP_sort fun p => ?_
  rw [List.mem_filter, missP_mem, missP_mem, miss_mem, miss_mem, row_more, decide_eq_true_iff]
  rcases due_more (d := (b, f, [])) (rowL_lt (ds := ds) (m := p.2)) with e | e
  · rw [e]
    exact ⟨fun z => z.1, fun z => ⟨z, due_lt z.2.1⟩⟩
  · rw [e, List.mem_append, List.mem_singleton]
    constructor
    · rintro ⟨⟨h1, h2, h3⟩, h4⟩
      exact ⟨h1, h2.elim id fun z => by omega, h3⟩
    · rintro ⟨h1, h2, h3⟩
      exact ⟨⟨h1, .inl h2, h3⟩, due_lt h2⟩
/-! methods more -/
def namesP (ps : List (Nat × Nat)) (c : Nat) : List Nat := (ps.filter fun p => decide (p.1 = c)).map (·.2)
theorem names_mem {ps : List (Nat × Nat)} {c m : Nat} : m ∈ namesP ps c ↔ (c, m) ∈ ps := by
  unfold namesP
  rw [List.mem_map]
  constructor
  · rintro ⟨p, hp, rfl⟩
    obtain ⟨h1, h2⟩ := List.mem_filter.mp hp
    rw [← of_decide_eq_true h2]
    exact h1
  · intro h
    exact ⟨(c, m), List.mem_filter.mpr ⟨h, decide_eq_true rfl⟩, rfl⟩
def moreM (ds : List Ent) (ps : List (Nat × Nat)) (c : Nat) : List Nat := upS 6 (methsOf ds c ++ namesP ps c)
def moreE (ds : List Ent) (ps : List (Nat × Nat)) (c : Nat) : Ent := ((ds.getD c ([], 0, [])).1, (ds.getD c ([], 0, [])).2.1, moreM ds ps c)
def moreD (ds : List Ent) (ps : List (Nat × Nat)) : List Ent := (List.range ds.length).map (moreE ds ps)
def MoreOk (ds : List Ent) (ps : List (Nat × Nat)) : Prop := ∀ c, c < ds.length → (moreM ds ps c).length ≤ 3
theorem moreD_len {ds : List Ent} {ps : List (Nat × Nat)} : (moreD ds ps).length = ds.length := by
  unfold moreD
  rw [List.length_map, List.length_range]
theorem moreD_get {ds : List Ent} {ps : List (Nat × Nat)} {c : Nat} (hc : c < ds.length) : (moreD ds ps)[c]? = some (moreE ds ps c) := by
  unfold moreD
  rw [List.getElem?_map, List.getElem?_range hc]
  rfl
theorem moreD_els {ds : List Ent} {ps : List (Nat × Nat)} : elsOf (moreD ds ps) = elsOf ds := by
  have e : (moreD ds ps).map (·.1) = ds.map (·.1) := by
    refine List.ext_getElem? fun i => ?_
    rw [List.getElem?_map, List.getElem?_map]
    by_cases h : i < ds.length
    · rw [moreD_get h, List.getElem?_eq_getElem h]
      show some (ds.getD i ([], 0, [])).1 = some ds[i].1
      rw [List.getD_eq_getElem?_getD, List.getElem?_eq_getElem h]
      rfl
    · rw [List.getElem?_eq_none (by rw [moreD_len]; omega), List.getElem?_eq_none (by omega)]
  show elders _ = elders _
  rw [e]
theorem moreD_ok {ds : List Ent} (ok : DsOk ds) {ps : List (Nat × Nat)} (h : MoreOk ds ps) : DsOk (moreD ds ps) := fun i d e => by
  have hi : i < ds.length := by
    have := (List.getElem?_eq_some_iff.mp e).1
    rw [moreD_len] at this
    exact this
  rw [moreD_get hi] at e
  obtain rfl := Option.some.inj e
  obtain ⟨d, hd⟩ : ∃ d, ds[i]? = some d := ⟨_, List.getElem?_eq_getElem hi⟩
  obtain ⟨o1, o2, o3, o4, o5, o6, o7⟩ := ok i d hd
  have eg : ds.getD i ([], 0, []) = d := by
    rw [List.getD_eq_getElem?_getD, hd]
    rfl
  unfold moreE
  rw [eg]
  exact ⟨o1, o2, o3, o4, upS_up, fun m hm => List.mem_range.mp (List.mem_filter.mp hm).1, h i hi⟩
theorem moreD_meths {ds : List Ent} {ps : List (Nat × Nat)} {c : Nat} (hc : c < ds.length) : methsOf (moreD ds ps) c = moreM ds ps c := by
  unfold methsOf
  rw [List.getD_eq_getElem?_getD, moreD_get hc]
  rfl
theorem moreM_mem {ds : List Ent} {ps : List (Nat × Nat)} {c m : Nat} : m ∈ moreM ds ps c ↔ m < 6 ∧ (m ∈ methsOf ds c ∨ (c, m) ∈ ps) := by
  unfold moreM upS
  rw [List.mem_filter, List.mem_range, List.contains_iff_mem, List.mem_append, names_mem]
theorem moreD_row {ds : List Ent} {ps : List (Nat × Nat)} {m c : Nat} (hm : m < 6) : c ∈ rowL (moreD ds ps) m ↔ c < ds.length ∧ (m ∈ methsOf ds c ∨ (c, m) ∈ ps) := by
  rw [row_mem, moreD_len]
  constructor
  · rintro ⟨h1, h2⟩
    rw [moreD_meths h1, moreM_mem] at h2
    exact ⟨h1, h2.2⟩
  · rintro ⟨h1, h2⟩
    refine ⟨h1, ?_⟩
    rw [moreD_meths h1, moreM_mem]
    exact ⟨hm, h2⟩
theorem among_els {ds es : List Ent} (h : elsOf es = elsOf ds) (L : List Nat) (c : Nat) : amongL es L c = amongL ds L c := by
  unfold amongL inKin
  rw [h]
theorem clear_els {ds es : List Ent} (h : elsOf es = elsOf ds) (hl : es.length = ds.length) {L : List Nat} : ClearL es L ↔ ClearL ds L := by
  unfold ClearL
  rw [hl]
  exact ⟨fun z c hc => by rw [← among_els h]; exact z c hc, fun z c hc => by rw [among_els h]; exact z c hc⟩
theorem kept_els {ds es : List Ent} (h : elsOf es = elsOf ds) (L : List Nat) : ∀ c, keptUp es L c = keptUp ds L c
  | 0 => rfl
  | c + 1 => by
    show (if 1 < (amongL es (keptUp es L c) c).length then keptUp es L c ++ [c] else keptUp es L c) = (if 1 < (amongL ds (keptUp ds L c) c).length then keptUp ds L c ++ [c] else keptUp ds L c)
    rw [kept_els h L c, among_els h]
theorem due_els {ds es : List Ent} (h : elsOf es = elsOf ds) (hl : es.length = ds.length) (L : List Nat) : dueL es L = dueL ds L := by
  unfold dueL keptL
  rw [hl, kept_els h]
/-- all due methods: none is due any more -/
theorem full_row {ds : List Ent} {m : Nat} (hm : m < 6) : rowL (moreD ds (missP ds)) m = dueL ds (rowL ds m) := by
  refine up_ext rowL_up upS_up fun c => ?_
  rw [moreD_row hm]
  constructor
  · rintro ⟨h1, h2 | h2⟩
    · exact due_base rowL_lt (row_mem.mpr ⟨h1, h2⟩)
    · exact (miss_mem.mp (missP_mem.mp h2).2).1
  · intro h
    refine ⟨due_lt h, ?_⟩
    by_cases z : c ∈ rowL ds m
    · exact .inl (row_mem.mp z).2
    · exact .inr (missP_mem.mpr ⟨hm, miss_mem.mpr ⟨h, z⟩⟩)
theorem full_nil {ds : List Ent} (ok : DsOk ds) (h : MoreOk ds (missP ds)) : missP (moreD ds (missP ds)) = [] :=
  missP_nil.mpr fun m hm => (miss_nil (moreD_ok ok h)).mpr ((clear_els moreD_els moreD_len).mpr (by rw [full_row hm]; exact due_clear rowL_lt))
/-- all but one: that one is due -/
theorem less_one {ds : List Ent} (ok : DsOk ds) {A B : List (Nat × Nat)} {p : Nat × Nat} (e : missP ds = A ++ p :: B) : missP (moreD ds (A ++ B)) = [p] := by
  obtain ⟨c0, m0⟩ := p
  have nd := (missP_sort (ds := ds)).nodup
  rw [e] at nd
  have memAB : ∀ q, q ∈ A ++ B ↔ q ∈ missP ds ∧ q ≠ (c0, m0) := fun q => by
    rw [e, List.mem_append, List.mem_append, List.mem_cons]
    obtain ⟨n1, n2, n3⟩ := List.nodup_append.mp nd
    obtain ⟨n4, n5⟩ := List.nodup_cons.mp n2
    constructor
    · rintro (h | h)
      · exact ⟨.inl h, fun z => n3 q h (c0, m0) List.mem_cons_self z⟩
      · exact ⟨.inr (.inr h), fun z => n4 (by rw [← z]; exact h)⟩
    · rintro ⟨h | h | h, z⟩
      · exact .inl h
      · exact absurd h z
      · exact .inr h
  obtain ⟨hm0, hc0⟩ := missP_mem.mp (show (c0, m0) ∈ missP ds by rw [e]; exact List.mem_append_right _ List.mem_cons_self)
  have hm0 : m0 < 6 := hm0
  have hc0 : c0 ∈ missM ds m0 := hc0
  have mem2 : ∀ {m c : Nat}, m < 6 → (c ∈ rowL (moreD ds (A ++ B)) m ↔ c ∈ dueL ds (rowL ds m) ∧ ¬ (c = c0 ∧ m = m0)) := fun {m c} hm => by
    have z := full_row (ds := ds) hm
    rw [moreD_row hm, ← z, moreD_row hm, memAB]
    constructor
    · rintro ⟨h1, h2 | h2⟩
      · refine ⟨⟨h1, .inl h2⟩, ?_⟩
        rintro ⟨rfl, rfl⟩
        exact (miss_mem.mp hc0).2 (row_mem.mpr ⟨h1, h2⟩)
      · exact ⟨⟨h1, .inr h2.1⟩, fun ⟨a, b⟩ => h2.2 (by rw [a, b])⟩
    · rintro ⟨⟨h1, h2 | h2⟩, h3⟩
      · exact ⟨h1, .inl h2⟩
      · exact ⟨h1, .inr ⟨h2, fun z => h3 ⟨(Prod.mk.inj z).1, (Prod.mk.inj z).2⟩⟩⟩
  have due2 : ∀ {m : Nat}, m < 6 → dueL (moreD ds (A ++ B)) (rowL (moreD ds (A ++ B)) m) = dueL ds (rowL ds m) := fun {m} hm => by
    have lt2 : ∀ x ∈ rowL (moreD ds (A ++ B)) m, x < ds.length := fun x hx => due_lt ((mem2 hm).mp hx).1
    rw [due_els moreD_els moreD_len]
    refine up_ext upS_up upS_up fun x => ?_
    rw [due_mem lt2]
    constructor
    · intro h
      exact kept_least ok (due_clear rowL_lt) (fun y hy => ((mem2 hm).mp hy).1) ds.length (Nat.le_refl _) x h
    · intro h
      refine kept_least ok (kept_clear (ds := ds) (L := rowL (moreD ds (A ++ B)) m)) (fun y hy => kept_base ((mem2 hm).mpr ⟨due_base rowL_lt hy, ?_⟩) _) ds.length (Nat.le_refl _) x ((due_mem rowL_lt).mp h)
      rintro ⟨rfl, rfl⟩
      exact (miss_mem.mp hc0).2 hy
  refine sortP_one missP_sort (List.pairwise_singleton _ _) fun q => ?_
  rw [missP_mem, List.mem_singleton]
  constructor
  · rintro ⟨h1, h2⟩
    obtain ⟨z1, z2⟩ := miss_mem.mp h2
    rw [due2 h1] at z1
    rw [mem2 h1] at z2
    have : q.1 = c0 ∧ q.2 = m0 := Classical.byContradiction fun z => z2 ⟨z1, z⟩
    exact Prod.ext this.1 this.2
  · rintro rfl
    refine ⟨hm0, miss_mem.mpr ⟨?_, ?_⟩⟩
    · rw [due2 hm0]
      exact (miss_mem.mp hc0).1
    · rw [mem2 hm0]
      exact fun z => z.2 ⟨rfl, rfl⟩
end K59

set_option maxRecDepth 100000
set_option maxHeartbeats 8000000
namespace K59
open PySem PySem.Spec PyProof.Rows L2 Kw LamX
section
variable {P : Program} {w : World} {K : PySem.W.Frag} {mg : Str → Option Value} {base : Heap} {f fLe C : Addr} {fd fdLe : FuncData}
def spMiss (C : Addr) : Sp := fun vs H Q _ => ∃ (p : Addr) (ds : List Ent), vs = [.ref p] ∧ WorldAt H p C ds ∧ DsOk ds ∧ ds.length ≤ 12 ∧
  ∀ t us H', Same H H' → H' t = some (.tup us) → PairsAt H' us (missP ds) → Q (.ref t) H'
theorem sc_miss : FnScope ["world", "found", "name", "lot", "c", "methods"] ["world"] (defScope (top 33)) := ⟨rfl, rfl, rfl, by decide +kernel, rfl, by decide +kernel, by decide +kernel⟩
theorem ok_miss (F : FnP K "missing_methods" 33 f fd) (B : Fr mg) (Z : Cst mg) (TC : ClsWorld K mg C) (FLe : FnP K "least_clear" 32 fLe fdLe) (mLe : mg "least_clear" = some (.ref fLe)) (GLe : FnOk P w K mg base CX0 4 fLe fdLe ["world", "lot"] (spLeastC C)) :
    FnOk P w K mg base CX0 5 f fd ["world"] (spMiss C) := by
  have bLe : L2.Binds K fdLe ["world", "lot"] [] := FLe.bindsN fun _ _ _ _ _ _ us hl => match us, hl with | [_, _], _ => rfl
  obtain ⟨t6, z6⟩ := Z.mn
  refine F.ok sc_miss (fun vs H Q E h => ?_) (fun cdv A outer s H vs Q E hr h => ?_)
  · obtain ⟨p, ds, rfl, _⟩ := h
    rfl
  · obtain ⟨p, ds, rfl, hw, ok, h12, k⟩ := h
    refine ⟨_, PSs.nox (pss_cons (ps_set (i := 1) sc_miss.nd rfl (Or.inl rfl) (pe_lst pa_nil))
      (pss_cons (ps_for PassesOwn.never rfl (pi_range1 (by rfl) B.range (pa_cons (pe_glob (v := .int 6) (by rfl) z6 ⟨_, rfl⟩) pa_nil)) (pg_name (i := 2) sc_miss.nd rfl (Or.inr rfl))
        (pss_cons (ps_set (i := 3) sc_miss.nd rfl (Or.inr rfl) (pe_lc (own := [("c", 4), ("methods", 5)]) (g := gTup K 2 (gCons (gName 4) (gCons (gName 5) gNil))) (tt := tTest (tOp (rIn K false) (tVar 2) (tVar 5))) (te := tVar 4) rfl sc_miss.nd (pi_enumT (by rfl) B.enumerate (pa_cons (pe_fld (pv 0) rfl) pa_nil)) (blkOk_by (N := ["world", "found", "name", "lot", "c", "methods"]) (sc := defScope (top 33)) (by decide +kernel))
          (fun _ _ _ _ _ => pg_tup (by rfl) (pgs_cons (pg_name (i := 4) sc_miss.nd rfl (Or.inl rfl)) (pgs_cons (pg_name (i := 5) sc_miss.nd rfl (Or.inl rfl)) pgs_nil)))
          (fun _ _ _ _ _ => pts_one (pt_cmpR (r := rIn K false) op_in_seq (pv 2) (pv 5) (by rfl))) (fun _ _ _ _ _ => pv 4)))
        (pss_one (ps_expr (pe_bm PySem.F.plainAttrs_list PySem.F.slot_list_extend PySem.F.type_list_extend mt_extend (pv 1) (pa_cons
          (pe_lc (own := [("c", 4)]) (g := gName 4) (tt := tTest (tOp (rIn K true) (tVar 4) (tVar 3))) (te := tTup (tCons (tVar 4) (tCons (tVar 2) tNil))) rfl sc_miss.nd (pi_tup (pe_call GLe hr (by rfl) mLe FLe.kp bLe .nil pass0 (pa_cons (pv 0) (pa_cons (pv 3) pa_nil)))) (blkOk_by (N := ["world", "found", "name", "lot", "c", "methods"]) (sc := defScope (top 33)) (by decide +kernel))
            (fun _ _ _ _ _ => pg_name (i := 4) sc_miss.nd rfl (Or.inl rfl)) (fun _ _ _ _ _ => pts_one (pt_cmpR (r := rIn K true) op_notIn_seq (pv 4) (pv 3) (by rfl))) (fun _ _ _ _ _ => pe_tup (pa_cons (pv 4) (pa_cons (pv 2) pa_nil)))) pa_nil))))))
      (pss_one (ps_ret (pe_callTy (T := "tuple") (r := rTupOf K) (call_tup (X := _)) (by rfl) B.tuple (by decide +kernel) (pa_cons (pe_callB (r := rSortPs K) (call_sortPs (X := _)) (by rfl) B.sorted (by decide +kernel) (pa_cons (pv 1) pa_nil)) pa_nil)))))), ?_⟩
    refine ⟨(by decide), fun D hD => ?_⟩
    have sD := same_new (o := .lst []) hD
    refine ⟨_, rfl, by decide, by decide, ?_⟩
    refine for_range (n := ((6 : Int)).toNat) (fun i σ H' => Same H H' ∧ ∃ x2 x3 ws, σ = [some (.ref p), some (.ref D), x2, x3, none, none] ∧ H' D = some (.lst ws) ∧ PairsAt H' ws (foundUp ds i)) ⟨sD, none, none, [], rfl, upd_same, .nil⟩ ?_ ?_
    · rintro i σ H1 hi ⟨s1, x2, x3, ws, rfl, hD1, hP⟩
      have hi : i < 6 := hi
      have ei : (0 : Int) + (i : Int) = (i : Int) := by omega
      rw [ei]
      have hw0 := hw
      obtain ⟨dx, ac, ab, ao, am, ae, ah, cs, bs, ms, es, hs, h1, h2, h3, h4, h5, h6, h7, h8, h9, h10, h11, h12'⟩ := hw
      have lms : ms.length = ds.length := by
        have := h8.len
        rw [List.length_map] at this
        exact this
      refine ⟨_, rfl, p, C, dx, _, _, rfl, s1 _ _ h1, TC.cl, TC.no _ (List.mem_of_getElem? (i := 3) rfl), rfl, am, ms, rfl, SqT.of (s1 _ _ h7), fun D1 hDn => lc_enumTN (K := K) (a := am) (xs := ms) (fun i' H' => Same H1 H' ∧ H' D1 = some (.lst (((List.range i').filter fun c => (methsOf ds c).contains i).map natV))) ⟨same_new hDn, upd_same⟩ (fun i' H' _ z => SqT.of (z.1 _ _ (s1 _ _ h7))) ?_ ?_⟩
      · rintro c v H2 T hc ⟨s2, hD2⟩ hT
        have il := (List.getElem?_eq_some_iff.mp hc).1
        have sT := same_new (o := .tup [.int (c : Nat), v]) hT
        obtain ⟨t4, q4, q5⟩ := meth_get h8 ok (x := c) (by omega)
        rw [hc] at q4
        obtain rfl := Option.some.inj q4
        refine ⟨T, _, rfl, SqT.of upd_same, rfl, _, _, rfl, _, _, rfl, rfl, rfl, _, rfl, _, rfl, t4, _, rfl, .inr (SqT.of (sT _ _ (s2 _ _ (s1 _ _ q5)))), rfl, flat_nats _, _, rfl, ?_⟩
        have ein : inV (natV i) ((methsOf ds c).map natV) = (methsOf ds c).contains i := inV_nat _ _
        show (if inV (natV i) ((methsOf ds c).map natV) = true then _ else _)
        rw [ein]
        have st := filter_takeN (fun c => (methsOf ds c).contains i) c
        have hD3 := sT _ _ hD2
        cases hb : (methsOf ds c).contains i with
        | true =>
          rw [hb, if_pos rfl] at st
          refine iteT' rfl ⟨_, rfl, _, hD3, ?_, same_upd (s2.trans sT) hDn, by rw [st, List.map_append, upd_same]; rfl⟩
          rw [List.length_map]
          refine Nat.lt_of_le_of_lt (List.length_filter_le _ _) ?_
          rw [List.length_range]
          show _ < 2 ^ 24
          omega
        | false =>
          rw [hb, if_neg (by decide), List.append_nil] at st
          exact iteF' rfl ⟨s2.trans sT, by rw [st]; exact hD3⟩
      rintro H2 ⟨s2, hM⟩
      rw [lms] at hM
      have hM : H2 D1 = some (.lst ((rowL ds i).map natV)) := hM
      refine ⟨_, rfl, .inl ⟨rfl, _, SqL.of (s2 _ _ hD1)⟩, ?_⟩
      have rl := rowL_len (ds := ds) (m := i)
      refine ⟨_, rfl, _, rfl, p, D1, ds, rowL ds i, rfl, (hw0.mono s1).mono s2, ok, h12, .inl hM, rowL_lt, by omega, fun t H3 s3 ht => ?_⟩
      rw [due_congr (fun x => upS_mem rowL_lt)] at ht
      refine ⟨t, rfl, ⟨_, SqT.of ht⟩, fun D2 hD2' => lc_tup (K := K) (a := t) (xs := (dueL ds (rowL ds i)).map natV) (fun j H' => Same H3 H' ∧ ∃ us, H' D2 = some (.lst us) ∧ PairsAt H' us ((((dueL ds (rowL ds i)).take j).filter fun c => !(rowL ds i).contains c).map fun c => (c, i))) ⟨same_new hD2', [], upd_same, .nil⟩ (fun j H' _ z => SqT.of (z.1 _ _ ht)) ?_ ?_⟩
      · rintro j v H4 hj ⟨s4, us, hD4, hP4⟩
        rw [List.getElem?_map] at hj
        obtain ⟨x, hx, rfl⟩ := Option.map_eq_some_iff.mp hj
        refine ⟨rfl, _, rfl, _, rfl, D1, _, rfl, .inl (SqL.of ((s3.trans s4) _ _ hM)), rfl, flat_nats _, _, rfl, ?_⟩
        have ein : inV (natV x) ((rowL ds i).map natV) = (rowL ds i).contains x := inV_nat _ _
        show (if (!inV (natV x) ((rowL ds i).map natV)) = true then _ else _)
        rw [ein]
        have st := take_filterN (p := fun c => !(rowL ds i).contains c) hx
        have ul : us.length ≤ 12 := by
          rw [hP4.len, List.length_map]
          refine Nat.le_trans (List.length_filter_le _ _) ?_
          rw [List.length_take]
          have := upS_len (n := ds.length) (xs := keptL ds (rowL ds i))
          show min j (upS ds.length (keptL ds (rowL ds i))).length ≤ 12
          omega
        cases hb : (rowL ds i).contains x with
        | false =>
          rw [hb, if_pos (show (!false) = true from rfl)] at st
          refine iteT' rfl ⟨_, rfl, _, rfl, (by show 2 ≤ sizeLine; decide), fun T hT => ⟨us, same_new hT _ _ hD4, by show _ < 2 ^ 24; omega, ?_⟩⟩
          have sT := same_new (o := .tup [natV x, natV i]) hT
          have hDT := sT _ _ hD4
          have TD : T ≠ D2 := Ne.symm (ne_of_none hD4 hT)
          refine ⟨same_upd (s4.trans sT) hD2', us ++ [.ref T], upd_same, ?_⟩
          rw [st, List.map_append]
          exact ((hP4.same sT).keep hDT (Oth.upd (Oth.of (Same.refl _)))).app (.cons ⟨T, rfl, upB TD upd_same⟩ .nil)
        | true =>
          rw [hb, if_neg (show ¬ (!true) = true from fun z => by cases z), List.append_nil] at st
          exact iteF' rfl ⟨s4, us, hD4, by rw [st]; exact hP4⟩
      · rintro H4 ⟨s4, us, hD4, hP4⟩
        rw [List.length_map, List.take_length] at hP4
        have hD5 := (s2.trans (s3.trans s4)) _ _ hD1
        have l1 := foundUp_len (ds := ds) (k := i)
        have l2 : ds.length * i ≤ 12 * 6 := Nat.mul_le_mul h12 (by omega)
        have l3 := hP.len
        have l4 : us.length ≤ 12 := by
          rw [hP4.len, List.length_map]
          refine Nat.le_trans (List.length_filter_le _ _) (Nat.le_trans upS_len h12)
        refine ⟨D, D2, ws, us, rfl, rfl, hD5, hD4, (by show _ ≤ 2 ^ 24; omega), ?_⟩
        have z2 := s2.trans (s3.trans s4)
        refine ⟨same_upd (s1.trans z2) hD, _, _, ws ++ us, rfl, upd_same, ?_⟩
        rw [found_succ]
        exact ((hP.same z2).keep hD5 (Oth.upd (Oth.of (Same.refl _)))).app (hP4.keep hD5 (Oth.upd (Oth.of (Same.refl _))))
    · rintro σ H1 ⟨s1, x2, x3, ws, rfl, hD1, hP⟩
      refine ⟨_, rfl, D, ws, foundUp ds 6, rfl, SqL.of hD1, hP, found_nodup, fun ys qs q hq perm so hqn => ?_⟩
      rw [found_sorted perm so] at hq
      exact tup_q (.inl upd_same) fun t H2 s2 ht => k t _ H2 (s1.trans ((same_new hqn).trans s2)) ht ((hq.same (same_new hqn)).same s2)
end
section
variable {P : Program} {w : World} {K : PySem.W.Frag} {mg : Str → Option Value} {base : Heap} {f : Addr} {fd : FuncData}
def missS (n : Nat) (cl : List (List Nat)) (lot : List Nat) : List Nat := (List.range n).filter fun c => !lot.contains c && !((cl.filter fun M => lotsIn lot M).any fun M => !M.contains c)
theorem missS_due {ds : List Ent} (ok : DsOk ds) {lot : List Nat} (hL : ∀ x ∈ lot, x < ds.length) {bs cl : List (List Nat)} (perm : bs.Perm (partsL ds.length)) (memC : ∀ M, M ∈ cl ↔ M ∈ bs ∧ ClearL ds M) : missS ds.length cl lot = (dueL ds lot).filter fun c => !lot.contains c := by
  rw [← due_shared ok hL perm (Ms := cl.filter fun M => lotsIn lot M) (fun M => by rw [List.mem_filter, memC, lotsIn_iff, and_assoc])]
  unfold sharedL missS
  rw [List.filter_filter]
def spLMiss : Sp := fun vs H Q _ => ∃ (a b cA l : Addr) (es cus : List V) (cl : List (List Nat)) (lot : List Nat), vs = [.ref a, .ref b, .ref cA, .ref l] ∧ H a = some (.lst es) ∧ es.length ≤ 12 ∧ H cA = some (.lst cus) ∧ ListsAt H cus cl ∧ cl.length ≤ 64 ∧ H l = some (.lst (lot.map natV)) ∧ lot.length ≤ 12 ∧
  ∀ D H', Same H H' → H' D = some (.lst ((missS es.length cl lot).map natV)) → Q (.ref D) H'
theorem sc_lmiss : FnScope ["_law_elders_here", "_law_lots", "_law_clear", "_law_lot", "_law_over", "_law_one", "_law_c"] ["_law_elders_here", "_law_lots", "_law_clear", "_law_lot"] (defScope (top 47)) := ⟨rfl, rfl, rfl, by decide +kernel, rfl, by decide +kernel, by decide +kernel⟩
theorem ok_lmiss (F : FnP K "_law_missing" 47 f fd) (B : Fr mg) : FnOk P w K mg base CX0 1 f fd ["_law_elders_here", "_law_lots", "_law_clear", "_law_lot"] spLMiss := by
  refine F.ok sc_lmiss (fun vs H Q E h => ?_) (fun cdv A outer s H vs Q E hr h => ?_)
  · obtain ⟨a, b, cA, l, es, cus, cl, lot, rfl, _⟩ := h
    rfl
  · obtain ⟨a, b, cA, l, es, cus, cl, lot, rfl, ha, e12, hc, hC, c64, hl, l12, k⟩ := h
    refine ⟨_, PSs.nox (pss_cons (ps_set (i := 4) sc_lmiss.nd rfl (Or.inr rfl) (pe_lc (own := [("_law_one", 5)]) (g := gName 5) (tt := tNot (tTru K (tLc (iList K (tVar 3)) (gName 6) (tTest (tOp (rIn K true) (tVar 6) (tVar 5))) (tVar 6) (List.map (fun x => x.snd) [("_law_c", 6)])))) (te := tVar 5) rfl sc_lmiss.nd
          (pi_list (pv 2)) (blkOk_by (N := ["_law_elders_here", "_law_lots", "_law_clear", "_law_lot", "_law_over", "_law_one", "_law_c"]) (sc := defScope (top 47)) (by decide +kernel))
          (fun _ _ _ _ _ => pg_name (i := 5) sc_lmiss.nd rfl (Or.inr rfl)) (fun _ _ _ _ _ => ?tt1) (fun _ _ _ _ _ => pv 5)))
      (pss_one (ps_ret (pe_lc (own := [("_law_c", 6)]) (g := gName 6) (tt := tAnd (tTest (tOp (rIn K true) (tVar 6) (tVar 3))) (tNot (tTru K (tLc (iList K (tVar 4)) (gName 5) (tTest (tOp (rIn K true) (tVar 6) (tVar 5))) (tVar 5) (List.map (fun x => x.snd) [("_law_one", 5)]))))) (te := tVar 6) rfl sc_lmiss.nd
          (pi_range1 (by rfl) B.range (pa_cons (pe_callB call_len_seq (by rfl) B.len PySem.boot_len (pa_cons (pv 0) pa_nil)) pa_nil)) (blkOk_by (N := ["_law_elders_here", "_law_lots", "_law_clear", "_law_lot", "_law_over", "_law_one", "_law_c"]) (sc := defScope (top 47)) (by decide +kernel))
          (fun _ _ _ _ _ => pg_name (i := 6) sc_lmiss.nd rfl (Or.inr rfl)) (fun _ _ _ _ _ => ?tt2) (fun _ _ _ _ _ => pv 6))))), ?_⟩
    case tt1 => exact pts_one (pt_not (pt_tru (pe_lc (own := [("_law_c", 6)]) (g := gName 6) (te := tVar 6) rfl sc_lmiss.nd (pi_list (pv 3)) (blkOk_by (by rfl)) (fun _ _ _ _ _ => pg_name (i := 6) sc_lmiss.nd rfl (Or.inl rfl)) (fun _ _ _ _ _ => pts_one (pt_cmpR (r := rIn K true) op_notIn_seq (pv 6) (pv 5) (by rfl))) (fun _ _ _ _ _ => pv 6)) (by intro _; rfl)))
    case tt2 => exact pts_one (PW.pt (pw_and (pt_cmpR (r := rIn K true) op_notIn_seq (pv 6) (pv 3) (by rfl)) (pw_and1 (pt_not (pt_tru (pe_lc (own := [("_law_one", 5)]) (g := gName 5) (te := tVar 5) rfl sc_lmiss.nd (pi_list (pv 4)) (blkOk_by (by rfl)) (fun _ _ _ _ _ => pg_name (i := 5) sc_lmiss.nd rfl (Or.inl rfl)) (fun _ _ _ _ _ => pts_one (pt_cmpR (r := rIn K true) op_notIn_seq (pv 6) (pv 5) (by rfl))) (fun _ _ _ _ _ => pv 5)) (by intro _; rfl))))))
    refine ⟨_, rfl, cA, rfl, ⟨_, SqL.of hc⟩, fun D hD => lc_list (K := K) (a := cA) (xs := cus) (fun j H' => Same H H' ∧ ∃ dus, H' D = some (.lst dus) ∧ (∀ v ∈ dus, v ≠ .ref D) ∧ ListsAt H' dus ((cl.take j).filter fun M => lotsIn lot M)) ⟨same_new hD, [], upd_same, (fun v hv => by cases hv), .nil⟩ (fun j H' _ z => SqL.of (z.1 _ _ hc)) ?_ ?_⟩
    · rintro j v H20 hj ⟨s20, dus, hD20, nD20, hDl⟩
      obtain ⟨M, hM⟩ : ∃ M, cl[j]? = some M := ⟨_, List.getElem?_eq_getElem (by rw [← hC.len]; exact (List.getElem?_eq_some_iff.mp hj).1)⟩
      obtain ⟨mt, emt, hmt⟩ := hC.get hM
      rw [hj] at emt
      obtain rfl := Option.some.inj emt
      refine ⟨rfl, _, rfl, l, rfl, ⟨_, SqL.of (s20 _ _ hl)⟩, fun D2 hD2 => lc_list (K := K) (a := l) (xs := lot.map natV) (fun m H' => Same H20 H' ∧ H' D2 = some (.lst (((lot.take m).filter fun c => !M.contains c).map natV))) ⟨same_new hD2, upd_same⟩ (fun m H' _ z => SqL.of ((s20.trans z.1) _ _ hl)) ?_ ?_⟩
      · rintro m v H21 hm ⟨s21, hD21⟩
        rw [List.getElem?_map] at hm
        obtain ⟨y, hy, rfl⟩ := Option.map_eq_some_iff.mp hm
        refine ⟨rfl, _, rfl, _, rfl, mt, _, rfl, .inl (SqL.of ((s20.trans s21) _ _ hmt)), rfl, flat_nats _, _, rfl, ?_⟩
        have ein : inV (natV y) (M.map natV) = M.contains y := inV_nat _ _
        show (if (!inV (natV y) (M.map natV)) = true then _ else _)
        rw [ein]
        have st := take_filterN (p := fun c => !M.contains c) hy
        cases hb : M.contains y with
        | false =>
          rw [hb, if_pos (show (!false) = true from rfl)] at st
          refine iteT' rfl ⟨_, rfl, _, hD21, ?_, same_upd s21 hD2, by rw [st, List.map_append, upd_same]; rfl⟩
          rw [List.length_map]
          refine Nat.lt_of_le_of_lt (List.length_filter_le _ _) ?_
          rw [List.length_take]
          show _ < 2 ^ 24
          omega
        | true =>
          rw [hb, if_neg (show ¬ (!true) = true from fun z => by cases z), List.append_nil] at st
          exact iteF' rfl ⟨s21, by rw [st]; exact hD21⟩
      · rintro H21 ⟨s21, hD21⟩
        rw [List.length_map, List.take_length] at hD21
        refine ⟨_, .inl ⟨_, SqL.of hD21, rfl⟩, ?_⟩
        have e : (!(!((lot.filter fun c => !M.contains c).map natV).isEmpty)) = lotsIn lot M := by
          unfold lotsIn
          congr 1
          rw [Bool.eq_iff_iff, List.any_eq_true]
          constructor
          · intro z
            cases q : lot.filter fun c => !M.contains c with
            | nil =>
              rw [q] at z
              cases z
            | cons y r =>
              have : y ∈ lot.filter fun c => !M.contains c := by rw [q]; exact List.mem_cons_self
              obtain ⟨h1, h2⟩ := List.mem_filter.mp this
              exact ⟨y, h1, h2⟩
          · rintro ⟨y, h1, h2⟩
            have : y ∈ lot.filter fun c => !M.contains c := List.mem_filter.mpr ⟨h1, h2⟩
            cases q : lot.filter fun c => !M.contains c with
            | nil =>
              rw [q] at this
              cases this
            | cons y r => rfl
        show (if (!(!((lot.filter fun c => !M.contains c).map natV).isEmpty)) = true then _ else _)
        rw [e]
        have st := take_anyN (p := fun M => lotsIn lot M) hM
        have hDD := s21 _ _ hD20
        have dul := hDl.len
        have dul2 : ((cl.take j).filter fun M => lotsIn lot M).length ≤ 64 := by
          refine Nat.le_trans (List.length_filter_le _ _) ?_
          rw [List.length_take]
          omega
        have mD : mt ≠ D := ne_of_none hmt (by assumption)
        cases hb : lotsIn lot M with
        | true =>
          rw [hb, if_pos rfl] at st
          refine iteT' rfl ⟨_, rfl, dus, hDD, (by show _ < 2 ^ 24; omega), same_upd (s20.trans s21) (by assumption), dus ++ [.ref mt], upd_same, fun v hv => ?_, ?_⟩
          · rcases List.mem_append.mp hv with hv | hv
            · exact nD20 v hv
            · rw [List.mem_singleton.mp hv]
              exact fun z => mD (V.ref.inj z)
          · rw [st]
            refine (ListsAt.mono (R := D) (fun b o hb e => upB hb (s21 _ _ e)) nD20 hDl).app (.cons ⟨mt, rfl, ?_⟩ .nil)
            exact upB mD ((s20.trans s21) _ _ hmt)
        | false =>
          rw [hb, if_neg (by decide), List.append_nil] at st
          exact iteF' rfl ⟨s20.trans s21, dus, hDD, nD20, by rw [st]; exact ListsAt.sameN s21 hDl⟩
    rintro H1 ⟨s1, dus, hD1, nD, hDl⟩
    rw [hC.len, List.take_length] at hDl
    have dl : (cl.filter fun M => lotsIn lot M).length ≤ 64 := Nat.le_trans (List.length_filter_le _ _) c64
    generalize hMs : (cl.filter fun M => lotsIn lot M) = Ms at hDl dl
    refine ⟨_, rfl, a, es, rfl, .inl (SqL.of (s1 _ _ ha)), _, rfl, by omega, by omega, fun D3 hD3 => ?_⟩
    refine lc_range (n := es.length) (fun i H' => Same H1 H' ∧ H' D3 = some (.lst (((List.range i).filter fun c => !lot.contains c && !(Ms.any fun M => !M.contains c)).map natV))) ⟨same_new hD3, upd_same⟩ ?_ ?_
    · rintro i H2 hi ⟨s2, hD2⟩
      have ei : (0 : Int) + (i : Int) = (i : Int) := by omega
      rw [ei]
      refine ⟨rfl, _, rfl, _, rfl, l, _, rfl, .inl (SqL.of ((s1.trans s2) _ _ hl)), rfl, flat_nats _, _, rfl, ?_⟩
      have ein0 : inV (natV i) (lot.map natV) = lot.contains i := inV_nat _ _
      show (if (!inV (natV i) (lot.map natV)) = true then _ else _)
      rw [ein0]
      have st := filter_takeN (fun c => !lot.contains c && !(Ms.any fun M => !M.contains c)) i
      cases hb0 : lot.contains i with
      | true =>
        rw [hb0, if_neg (show ¬ ((!true) && _) = true from fun z => by cases z), List.append_nil] at st
        exact iteF' rfl (iteF' rfl ⟨s2, by rw [st]; exact hD2⟩)
      | false =>
      rw [hb0] at st
      refine iteT' rfl ⟨_, rfl, D, rfl, ⟨_, SqL.of (s2 _ _ hD1)⟩, fun D2 hD2' => lc_list (K := K) (a := D) (xs := dus) (fun j H' => Same H2 H' ∧ ∃ eus, H' D2 = some (.lst eus) ∧ eus.length = ((Ms.take j).filter fun M => !M.contains i).length) ⟨same_new hD2', [], upd_same, rfl⟩ (fun j H' _ z => SqL.of ((s2.trans z.1) _ _ hD1)) ?_ ?_⟩
      · rintro j v H3 hj ⟨s3, eus, hD3, el⟩
        have jl : j < Ms.length := by
          rw [← hDl.len]
          exact (List.getElem?_eq_some_iff.mp hj).1
        obtain ⟨Mj, hMj⟩ : ∃ Mj, Ms[j]? = some Mj := ⟨_, List.getElem?_eq_getElem jl⟩
        obtain ⟨t, et, ht⟩ := hDl.get hMj
        rw [hj] at et
        obtain rfl := Option.some.inj et
        refine ⟨rfl, _, rfl, _, rfl, t, _, rfl, .inl (SqL.of ((s2.trans s3) _ _ ht)), rfl, flat_nats _, _, rfl, ?_⟩
        have ein : inV (natV i) (Mj.map natV) = Mj.contains i := inV_nat _ _
        show (if (!inV (natV i) (Mj.map natV)) = true then _ else _)
        rw [ein]
        have st := take_anyN (p := fun M => !M.contains i) hMj
        cases hb : Mj.contains i with
        | false =>
          rw [hb, if_pos (show (!false) = true from rfl)] at st
          refine iteT' rfl ⟨_, rfl, eus, hD3, ?_, same_upd s3 hD2', eus ++ [.ref t], upd_same, by rw [st, List.length_append, List.length_append, el]; rfl⟩
          rw [el]
          refine Nat.lt_of_le_of_lt (List.length_filter_le _ _) ?_
          rw [List.length_take]
          show _ < 2 ^ 24
          omega
        | true =>
          rw [hb, if_neg (show ¬ (!true) = true from fun z => by cases z), List.append_nil] at st
          exact iteF' rfl ⟨s3, eus, hD3, by rw [st]; exact el⟩
      · rintro H3 ⟨s3, eus, hD3, el⟩
        rw [hDl.len, List.take_length] at el
        refine ⟨_, .inl ⟨_, SqL.of hD3, rfl⟩, ?_⟩
        have e : (!(!(eus.isEmpty))) = !(Ms.any fun M => !M.contains i) := by
          congr 1
          rw [Bool.eq_iff_iff, List.any_eq_true]
          constructor
          · intro z
            cases q : Ms.filter fun M => !M.contains i with
            | nil =>
              rw [q] at el
              rw [List.length_eq_zero_iff.mp el] at z
              cases z
            | cons y r =>
              have : y ∈ Ms.filter fun M => !M.contains i := by rw [q]; exact List.mem_cons_self
              obtain ⟨h1, h2⟩ := List.mem_filter.mp this
              exact ⟨y, h1, h2⟩
          · rintro ⟨y, h1, h2⟩
            have : y ∈ Ms.filter fun M => !M.contains i := List.mem_filter.mpr ⟨h1, h2⟩
            cases q : eus with
            | nil =>
              rw [q] at el
              rw [List.length_eq_zero_iff.mp el.symm] at this
              cases this
            | cons y r => rfl
        show (if (!(!(eus.isEmpty))) = true then _ else _)
        rw [e]
        have hDD := s3 _ _ hD2
        cases hb : Ms.any fun M => !M.contains i with
        | false =>
          rw [hb, if_pos (show ((!false) && (!false)) = true from rfl)] at st
          refine iteT' rfl ⟨_, rfl, _, hDD, ?_, same_upd (s2.trans s3) (by assumption), by rw [st, List.map_append, upd_same]; rfl⟩
          rw [List.length_map]
          refine Nat.lt_of_le_of_lt (List.length_filter_le _ _) ?_
          rw [List.length_range]
          show _ < 2 ^ 24
          omega
        | true =>
          rw [hb, if_neg (show ¬ ((!false) && (!true)) = true from fun z => by cases z), List.append_nil] at st
          exact iteF' rfl ⟨s2.trans s3, by rw [st]; exact hDD⟩
    · rintro H2 ⟨s2, hD2⟩
      rw [← hMs] at hD2
      exact k D3 H2 (s1.trans s2) hD2
end
end K59

set_option maxRecDepth 100000
set_option maxHeartbeats 8000000
namespace K59
open PySem PySem.Spec PyProof.Rows L2 Kw LamX
theorem names_take {ps : List (Nat × Nat)} {c j : Nat} {p : Nat × Nat} (h : ps[j]? = some p) : namesP (ps.take (j + 1)) c = namesP (ps.take j) c ++ (if p.1 = c then [p.2] else []) := by
  unfold namesP
  rw [List.take_add_one, h, Option.toList_some, List.filter_append, List.map_append]
  congr 1
  by_cases z : p.1 = c
  · rw [List.filter_cons_of_pos (p := fun (p : Nat × Nat) => decide (p.1 = c)) (by exact decide_eq_true z), if_pos z]
    rfl
  · rw [List.filter_cons_of_neg (p := fun (p : Nat × Nat) => decide (p.1 = c)) (by rw [decide_eq_true_iff]; exact z), if_neg z]
    rfl
theorem names_len {ps : List (Nat × Nat)} {c : Nat} : (namesP ps c).length ≤ ps.length := by
  unfold namesP
  rw [List.length_map]
  exact List.length_filter_le _ _
/-- what may be added -/
structure Adds (ds : List Ent) (ps : List (Nat × Nat)) : Prop where
  nd : ps.Nodup
  lt : ∀ p ∈ ps, p.1 < ds.length ∧ p.2 < 6
  new : ∀ p ∈ ps, p.2 ∉ methsOf ds p.1
  len : ps.length ≤ 72
theorem Adds.miss {ds : List Ent} (h12 : ds.length ≤ 12) : Adds ds (missP ds) := ⟨missP_sort.nodup, fun p hp => missP_lt hp, fun p hp z => by
  obtain ⟨h1, h2⟩ := missP_mem.mp hp
  exact (miss_mem.mp h2).2 (row_mem.mpr ⟨miss_lt h2, z⟩), by
  have := missP_len (ds := ds)
  omega⟩
theorem Adds.less {ds : List Ent} {A B : List (Nat × Nat)} {p : Nat × Nat} (h : Adds ds (A ++ p :: B)) : Adds ds (A ++ B) := by
  have sub : ∀ q ∈ A ++ B, q ∈ A ++ p :: B := fun q hq => by
    rcases List.mem_append.mp hq with z | z
    · exact List.mem_append_left _ z
    · exact List.mem_append_right _ (List.mem_cons_of_mem _ z)
  refine ⟨h.nd.sublist ((List.sublist_cons_self p B).append_left A), fun q hq => h.lt q (sub q hq), fun q hq => h.new q (sub q hq), ?_⟩
  have := h.len
  rw [List.length_append, List.length_cons] at this
  rw [List.length_append]
  omega
theorem more_less {ds : List Ent} {A B : List (Nat × Nat)} {p : Nat × Nat} (h : MoreOk ds (A ++ p :: B)) : MoreOk ds (A ++ B) := fun c hc => by
  refine Nat.le_trans ?_ (h c hc)
  refine nodup_sub_len' (up_nodup upS_up) fun m hm => ?_
  obtain ⟨h1, h2⟩ := moreM_mem.mp hm
  refine moreM_mem.mpr ⟨h1, h2.imp id fun z => ?_⟩
  rcases List.mem_append.mp z with z | z
  · exact List.mem_append_left _ z
  · exact List.mem_append_right _ (List.mem_cons_of_mem _ z)
theorem moreM_sorted {ds : List Ent} (ok : DsOk ds) {ps : List (Nat × Nat)} (ha : Adds ds ps) {c : Nat} {ys : List Int} (perm : ys.Perm ((methsOf ds c ++ namesP ps c).map fun (n : Nat) => (n : Int))) (so : ys.Pairwise (· ≤ ·)) : ys.map V.int = (moreM ds ps c).map natV := by
  have mu : (methsOf ds c).Pairwise (· < ·) ∧ ∀ m ∈ methsOf ds c, m < 6 := by
    unfold methsOf
    rw [List.getD_eq_getElem?_getD]
    cases e : ds[c]? with
    | none => exact ⟨.nil, fun m hm => by cases hm⟩
    | some d => exact ⟨(ok c d e).2.2.2.2.1, (ok c d e).2.2.2.2.2.1⟩
  have nn : (namesP ps c).Nodup := by
    unfold namesP
    refine List.pairwise_map.mpr (List.Pairwise.imp_of_mem (fun {x y} hx hy z e => z ?_) (ha.nd.filter _))
    have e1 := of_decide_eq_true (List.mem_filter.mp hx).2
    have e2 := of_decide_eq_true (List.mem_filter.mp hy).2
    exact Prod.ext (e1.trans e2.symm) e
  refine sorted_one perm so ?_ (up_nodup upS_up) (fun x => ?_) upS_up
  · refine List.nodup_append.mpr ⟨up_nodup mu.1, nn, fun a h1 b h2 e => ?_⟩
    rw [← e] at h2
    exact ha.new _ (names_mem.mp h2) h1
  · show _ ↔ x ∈ upS 6 _
    rw [upS_mem]
    intro y hy
    rcases List.mem_append.mp hy with hy | hy
    · exact mu.2 y hy
    · exact (ha.lt _ (names_mem.mp hy)).2
section
variable {P : Program} {w : World} {K : PySem.W.Frag} {mg : Str → Option Value} {base : Heap} {f : Addr} {fd : FuncData}
def spMore : Sp := fun vs H Q _ => ∃ (l r : Addr) (us pus : List V) (ds : List Ent) (ps : List (Nat × Nat)), vs = [.ref l, .ref r] ∧ H l = some (.lst us) ∧ RwN l H us ds ∧ DsOk ds ∧ ds.length ≤ 12 ∧ H r = some (.lst pus) ∧ PairsAt H pus ps ∧ Adds ds ps ∧
  (MoreOk ds ps → ∀ D vs H', Same H H' → H D = none → H' D = some (.lst vs) → RwN D H' vs (moreD ds ps) → Q (.ref D) H') ∧ (¬ MoreOk ds ps → ∀ H', Same H H' → Q .non H')
theorem sc_more : FnScope ["_law_rows", "_law_methods_here", "_law_found", "_law_c", "_law_names", "_law_one", "_law_name"] ["_law_rows", "_law_methods_here"] (defScope (top 48)) := ⟨rfl, rfl, rfl, by decide +kernel, rfl, by decide +kernel, by decide +kernel⟩
theorem ok_more (F : FnP K "_law_more" 48 f fd) (B : Fr mg) : FnOk P w K mg base CX0 1 f fd ["_law_rows", "_law_methods_here"] spMore := by
  refine F.ok sc_more (fun vs H Q E h => ?_) (fun cdv A outer s H vs Q E hr h => ?_)
  · obtain ⟨l, r, us, pus, ds, ps, rfl, _⟩ := h
    rfl
  · obtain ⟨l, r, us, pus, ds, ps, rfl, hl, hR, ok, h12, hr', hP, ha, k1, k2⟩ := h
    refine ⟨_, PSs.nox (pss_cons (ps_set (i := 2) sc_more.nd rfl (Or.inl rfl) (pe_lst pa_nil))
      (pss_cons (ps_for PassesOwn.never rfl (pi_range1 (by rfl) B.range (pa_cons (pe_callB call_len_seq (by rfl) B.len PySem.boot_len (pa_cons (pv 0) pa_nil)) pa_nil)) (pg_name (i := 3) sc_more.nd rfl (Or.inr rfl))
        (pss_cons (ps_set (i := 4) sc_more.nd rfl (Or.inl rfl) (pe_callB (r := rSortSI K) (call_sortedSI (X := _)) (by rfl) B.sorted (by decide +kernel) (pa_cons (pe_op op_cat (pe_ix (r := rIxT K) ix_tup (pe_ix (r := rIxL K) ix_list (pv 0) (pv 3) (fun _ _ => rfl)) pe_int (fun _ _ => rfl))
            (pe_lc (own := [("_law_one", 5), ("_law_name", 6)]) (g := gTup K 2 (gCons (gName 5) (gCons (gName 6) gNil))) (tt := tTest (tOp rEq (tVar 5) (tVar 3))) (te := tVar 6) rfl sc_more.nd (pi_list (pv 1)) (blkOk_by (N := ["_law_rows", "_law_methods_here", "_law_found", "_law_c", "_law_names", "_law_one", "_law_name"]) (sc := defScope (top 48)) (by decide +kernel))
              (fun _ _ _ _ _ => pg_tup (by rfl) (pgs_cons (pg_name (i := 5) sc_more.nd rfl (Or.inl rfl)) (pgs_cons (pg_name (i := 6) sc_more.nd rfl (Or.inl rfl)) pgs_nil)))
              (fun _ _ _ _ _ => pts_one (pt_cmpR op_eq (pv 5) (pv 3) (nomark _))) (fun _ _ _ _ _ => pv 6))) pa_nil)))
        (pss_cons (ps_if (pt_cmp (pc_gt (pe_callB call_len_seq (by rfl) B.len PySem.boot_len (pa_cons (pv 4) pa_nil)) pe_int)) (pss_one (ps_ret pe_non)) pss_nil)
        (pss_one (ps_expr (pe_bm PySem.F.plainAttrs_list PySem.F.slot_list_append PySem.F.type_list_append mt_append (pv 2) (pa_cons (pe_tup (pa_cons (pe_ix (r := rIxT K) ix_tup (pe_ix (r := rIxL K) ix_list (pv 0) (pv 3) (fun _ _ => rfl)) pe_int (fun _ _ => rfl)) (pa_cons (pe_ix (r := rIxT K) ix_tup (pe_ix (r := rIxL K) ix_list (pv 0) (pv 3) (fun _ _ => rfl)) pe_int (fun _ _ => rfl)) (pa_cons (pv 4) pa_nil)))) pa_nil)))))))
      (pss_one (ps_ret (pv 2))))), ?_⟩
    have usl : us.length = ds.length := hR.len
    refine ⟨(by decide), fun D hD => ?_⟩
    have sD := same_new (o := .lst []) hD
    refine ⟨_, rfl, l, us, rfl, .inl (SqL.of (sD _ _ hl)), _, rfl, by omega, by omega, ?_⟩
    refine for_range (n := us.length) (fun i σ H' => Same H H' ∧ (∀ c, c < i → (moreM ds ps c).length ≤ 3) ∧ ∃ x3 x4 vs, σ = [some (.ref l), some (.ref r), some (.ref D), x3, x4, none, none] ∧ H' D = some (.lst vs) ∧ RwN D H' vs ((List.range i).map (moreE ds ps))) ⟨sD, fun c z => absurd z (Nat.not_lt_zero _), none, none, [], rfl, upd_same, .nil⟩ ?_ ?_
    · rintro i σ H1 hi ⟨s1, hm, x3, x4, vs, rfl, hD1, hV⟩
      have ei : (0 : Int) + (i : Int) = (i : Int) := by omega
      rw [ei]
      have hi' : i < ds.length := by omega
      obtain ⟨d, hd⟩ : ∃ d, ds[i]? = some d := ⟨_, List.getElem?_eq_getElem hi'⟩
      obtain ⟨t, b, m, et, ht, hb, hm2⟩ := hR.get hd
      have emd : methsOf ds i = d.2.2 := by
        unfold methsOf
        rw [List.getD_eq_getElem?_getD, hd]
        rfl
      refine ⟨_, rfl, _, rfl, l, us, (i : Int), _, rfl, rfl, SqL.of (s1 _ _ hl), atI_nat et, t, _, 2, _, rfl, rfl, SqT.of (s1 _ _ ht), rfl, ?_⟩
      refine ⟨_, rfl, r, rfl, ⟨_, SqL.of (s1 _ _ hr')⟩, fun D1 hDn => lc_list (K := K) (a := r) (xs := pus) (fun j H' => Same H1 H' ∧ H' D1 = some (.lst ((namesP (ps.take j) i).map natV))) ⟨same_new hDn, upd_same⟩ (fun j H' _ z => SqL.of ((s1.trans z.1) _ _ hr')) ?_ ?_⟩
      · rintro j v H2 hj ⟨s2, hD2⟩
        obtain ⟨p, t2, hp, rfl, ht2⟩ := hP.at hj
        refine ⟨t2, _, rfl, SqT.of ((s1.trans s2) _ _ ht2), rfl, _, _, rfl, _, _, rfl, rfl, rfl, _, rfl, _, rfl, rfl, _, rfl, ?_⟩
        have st := names_take (c := i) hp
        have nl : (namesP (ps.take j) i).length ≤ 72 := by
          refine Nat.le_trans names_len ?_
          rw [List.length_take]
          have := ha.len
          omega
        by_cases z : p.1 = i
        · rw [if_pos z] at st
          refine iteT' (decide_eq_true (by rw [z]; rfl)) ⟨_, rfl, _, hD2, by rw [List.length_map]; show _ < 2 ^ 24; omega, same_upd s2 hDn, by rw [st, List.map_append, upd_same]; rfl⟩
        · rw [if_neg z, List.append_nil] at st
          exact iteF' (decide_eq_false (fun e => z (by have e : (V.int (p.1 : Int)) = V.int (i : Int) := e; have := V.int.inj e; omega))) ⟨s2, by rw [st]; exact hD2⟩
      rintro H2 ⟨s2, hD2⟩
      rw [hP.len, List.take_length] at hD2
      have nl : (namesP ps i).length ≤ 72 := Nat.le_trans names_len ha.len
      have ml : d.2.2.length ≤ 3 := (ok i d hd).2.2.2.2.2.2
      refine ⟨m, D1, _, _, rfl, rfl, (s1.trans s2) _ _ hm2, hD2, (by rw [List.length_map, List.length_map]; show _ ≤ 2 ^ 24; omega), fun N hN => ?_⟩
      have sN := same_new (o := .lst (d.2.2.map natV ++ (namesP ps i).map natV)) hN
      refine ⟨N, (methsOf ds i ++ namesP ps i).map (fun (n : Nat) => (n : Int)), rfl, .inl (SqL.of ?_), fun ys q perm so hq => ?_⟩
      · rw [upd_same, emd, List.map_append, List.map_append, List.map_map, List.map_map]
        rfl
      have ey := moreM_sorted ok ha perm so
      have qD : q ≠ D := Ne.symm (ne_of_none ((s2.trans sN) _ _ hD1) hq)
      have sq := same_new (o := .lst (ys.map V.int)) hq
      have s4 := (s2.trans sN).trans sq
      rw [ey] at s4 ⊢
      refine ⟨_, rfl, q, _, rfl, .inl (SqL.of upd_same), _, _, rfl, rfl, _, rfl, ?_⟩
      generalize hH4 : upd (upd H2 N (.lst (d.2.2.map natV ++ (namesP ps i).map natV))) q (.lst ((moreM ds ps i).map natV)) = H4 at s4 ⊢
      have hq4 : H4 q = some (.lst ((moreM ds ps i).map natV)) := by rw [← hH4]; exact upd_same
      by_cases z : (moreM ds ps i).length ≤ 3
      · refine iteF' (decide_eq_false (by rw [List.length_map]; omega)) ?_
        have ht4 := (s1.trans s4) _ _ ht
        have hl4 := (s1.trans s4) _ _ hl
        refine ⟨_, rfl, .inl ⟨rfl, _, SqL.of (s4 _ _ hD1)⟩, _, rfl, _, rfl, l, us, (i : Int), _, rfl, rfl, SqL.of hl4, atI_nat et, t, _, 0, _, rfl, rfl, SqT.of ht4, rfl, ?_⟩
        refine ⟨_, rfl, _, rfl, l, us, (i : Int), _, rfl, rfl, SqL.of hl4, atI_nat et, t, _, 1, _, rfl, rfl, SqT.of ht4, rfl, _, rfl, (by show 3 ≤ sizeLine; decide), fun T hT => ?_⟩
        have sT := same_new (o := .tup [.ref b, natV d.2.1, .ref q]) hT
        have hDT := (s4.trans sT) _ _ hD1
        have TD : T ≠ D := Ne.symm (ne_of_none (s4 _ _ hD1) hT)
        have bD : b ≠ D := ne_of_none hb hD
        have vl : vs.length = i := by rw [hV.len, List.length_map, List.length_range]
        have eE : moreE ds ps i = (d.1, d.2.1, moreM ds ps i) := by
          unfold moreE
          rw [List.getD_eq_getElem?_getD, hd]
          rfl
        refine ⟨D, vs, _, rfl, rfl, hDT, (by show _ < 2 ^ 24; omega), same_upd ((s1.trans s4).trans sT) hD, fun c hc => ?_, _, _, vs ++ [.ref T], rfl, upd_same, ?_⟩
        · by_cases y : c = i
          · rw [y]
            exact z
          · exact hm c (by omega)
        · rw [List.range_succ, List.map_append]
          refine ((hV.keep (KeepX.of (s4.trans sT))).keep KeepX.upd).app (.cons ⟨T, b, q, rfl, TD, upB TD (by rw [eE]; exact upd_same), bD, upB bD (by rw [eE]; exact ((s1.trans s4).trans sT) _ _ hb), qD, upB qD (by rw [eE]; exact sT _ _ hq4)⟩ .nil)
      · refine iteT' (decide_eq_true (by rw [List.length_map]; omega)) (k2 (fun y => z (y i hi')) _ (s1.trans s4))
    · rintro σ H1 ⟨s1, hm, x3, x4, vs, rfl, hD1, hV⟩
      rw [usl] at hm hV
      exact ⟨_, rfl, k1 hm D vs H1 s1 hD hD1 hV⟩
end
end K59

set_option maxRecDepth 100000
set_option maxHeartbeats 16000000
namespace K59
open PySem PySem.Spec PyProof.Rows L2 Kw LamX
theorem any_clear {ds : List Ent} {M : List Nat} : (unclearL ds M).isEmpty = true ↔ ClearL ds M := by rw [List.isEmpty_iff, unclear_nil]
theorem miss_eq {ds : List Ent} (ok : DsOk ds) {bs cl : List (List Nat)} (perm : bs.Perm (partsL ds.length)) (memC : ∀ M, M ∈ cl ↔ M ∈ bs ∧ ClearL ds M) (m : Nat) : missS ds.length cl (rowL ds m) = missM ds m := missS_due ok rowL_lt perm memC
theorem eqv_pairs_nil (ps : List (Nat × Nat)) : PyData.eqv (.list (ps.map dPair)) (.list []) = ps.isEmpty := by
  cases ps with
  | nil => decide +kernel
  | cons a t => simp [PyData.eqv, PyData.eqvAll]
theorem eqv_pairsT_nil (ps : List (Nat × Nat)) : PyData.eqv (.tuple (ps.map dPair)) (.tuple []) = ps.isEmpty := by
  cases ps with
  | nil => decide +kernel
  | cons a t => simp [PyData.eqv, PyData.eqvAll]
theorem cut_head (xs : List V) (i : Nat) (h : i ≤ xs.length) : cutV xs none (some (i : Int)) = xs.take i := by
  unfold cutV
  rw [HT.sIx_nat, HT.sIx_none, Nat.min_eq_left h]
  simp
theorem PairsAt.take {H : Hp} : ∀ (i : Nat) {us : List V} {ps : List (Nat × Nat)}, PairsAt H us ps → PairsAt H (us.take i) (ps.take i)
  | 0, us, ps, _ => by
    rw [List.take_zero, List.take_zero]
    exact .nil
  | i + 1, [], [], _ => .nil
  | i + 1, _ :: _, _ :: _, .cons z r => .cons z (PairsAt.take i r)
theorem PairsAt.drop {H : Hp} : ∀ (i : Nat) {us : List V} {ps : List (Nat × Nat)}, PairsAt H us ps → PairsAt H (us.drop i) (ps.drop i)
  | 0, _, _, h => h
  | i + 1, [], [], _ => .nil
  | i + 1, _ :: _, _ :: _, .cons _ r => PairsAt.drop i r
theorem PairsAt.kj {T : List (Addr × Str)} {H H' : Hp} (k : KJ T H H') : ∀ {us : List V} {ps : List (Nat × Nat)}, PairsAt H us ps → PairsAt H' us ps
  | [], [], _ => .nil
  | _ :: _, _ :: _, .cons ⟨t, e, h⟩ r => .cons ⟨t, e, k.1 _ _ h nh_tup nt_tup⟩ (PairsAt.kj k r)
theorem split_at {ps : List (Nat × Nat)} {i : Nat} {p : Nat × Nat} (h : ps[i]? = some p) : ps = ps.take i ++ p :: ps.drop (i + 1) := by
  obtain ⟨h1, h2⟩ := List.getElem?_eq_some_iff.mp h
  rw [← h2, ← List.drop_eq_getElem_cons h1, List.take_append_drop]
section
variable {P : Program} {w : World} {K : PySem.W.Frag} {mg : Str → Option Value} {base : Heap} {f fW fHa fCl fFe fBa fEl fPa fLU fMi fM fTw fMo C Cb Pt : Addr} {fd fdW fdHa fdCl fdFe fdBa fdEl fdPa fdLU fdMi fdM fdTw fdMo : FuncData}
theorem sc_law : FnScope ["_law_script", "_law_hand_here", "_law_rows", "_law_world", "_law_elders_here", "_law_lots", "_law_clear", "_law_lot", "_law_due", "_law_name", "_law_c", "_law_longer", "_law_told", "_law_pair", "_law_full", "_law_at", "_law_rest", "_law_less", "_law_left"] ["_law_script"] (defScope (top 49)) := ⟨rfl, rfl, rfl, by decide +kernel, rfl, by decide +kernel, by decide +kernel⟩
theorem law_at (F : FnP K "law" 49 f fd) (B : Fr mg) (gRp : mg "repr" = none)
    (FHa : FnP K "_law_hand" 35 fHa fdHa) (mHa : mg "_law_hand" = some (.ref fHa)) (GHa : FnOk P w K mg base CX0 1 fHa fdHa ["_law_script"] (spHand K))
    (FCl : FnP K "_law_classes" 41 fCl fdCl) (mCl : mg "_law_classes" = some (.ref fCl)) (GCl : FnOk P w K mg base CX0 5 fCl fdCl ["_law_hand_here", "_law_low", "_law_high", "_law_most", "_law_wanted"] spClasses)
    (FFe : FnP K "_law_few" 46 fFe fdFe) (mFe : mg "_law_few" = some (.ref fFe)) (GFe : FnOk P w K mg base CX0 3 fFe fdFe ["_law_hand_here", "_law_rows"] spFew)
    (FBa : FnP K "_law_bases" 38 fBa fdBa) (mBa : mg "_law_bases" = some (.ref fBa)) (GBa : FnOk P w K mg base CX0 3 fBa fdBa ["_law_hand_here", "_law_c"] spBases)
    (FEl : FnP K "_law_elders" 42 fEl fdEl) (mEl : mg "_law_elders" = some (.ref fEl)) (GEl : FnOk P w K mg base CX0 1 fEl fdEl ["_law_rows"] spLElders)
    (FPa : FnP K "_law_parts" 45 fPa fdPa) (mPa : mg "_law_parts" = some (.ref fPa)) (GPa : FnOk P w K mg base CX0 2 fPa fdPa ["_law_many"] (spParts Pt))
    (FLU : FnP K "_law_unclear" 44 fLU fdLU) (mLU : mg "_law_unclear" = some (.ref fLU)) (GLU : FnOk P w K mg base CX0 2 fLU fdLU ["_law_elders_here", "_law_lot"] spLUncl)
    (FMi : FnP K "_law_missing" 47 fMi fdMi) (mMi : mg "_law_missing" = some (.ref fMi)) (GMi : FnOk P w K mg base CX0 1 fMi fdMi ["_law_elders_here", "_law_lots", "_law_clear", "_law_lot"] spLMiss)
    (FM : FnP K "missing_methods" 33 fM fdM) (mM : mg "missing_methods" = some (.ref fM)) (GM : FnOk P w K mg base CX0 5 fM fdM ["world"] (spMiss C))
    (FTw : FnP K "two_answers" 27 fTw fdTw) (mTw : mg "two_answers" = some (.ref fTw)) (GTw : FnOk P w K mg base CX0 6 fTw fdTw ["world"] (spTwo C))
    (FMo : FnP K "_law_more" 48 fMo fdMo) (mMo : mg "_law_more" = some (.ref fMo)) (GMo : FnOk P w K mg base CX0 1 fMo fdMo ["_law_rows", "_law_methods_here"] spMore)
    (FW : FnM K "__init__" "World.__init__" (inClass (top 18) 0) fW fdW) (MW : Mk K C fW) (mW : mg "World" = some (.ref C)) (GW : FnOk P w K mg base (L2.CX P w) 4 fW fdW ["self", "classes"] (spWorld C Cb))
    {H : Hp} {s : Shared} {a : Addr} {ns : List Int} (env0 : Env0 P w K mg base callerA [] s H) (bind : BindsTo s fd ⟨[.ref a], []⟩ ((["_law_script"] : List Str).zip [Value.ref a])) (hns : ns.length ≤ 63) (hA : SqL K H a (ns.map V.int)) (hTb : H Pt = some (.tbl #[])) :
    codeAny (model P w) callerA (.call (.ref f) ⟨[.ref a], []⟩) (CR CX0 [] P w H s (fun v _ => v = .bl true) (fun _ _ _ => False)) s := by
  have bHa : L2.Binds K fdHa ["_law_script"] [] := FHa.bindsN fun _ _ _ _ _ _ us hl => match us, hl with | [_], _ => rfl
  have bCl : L2.Binds K fdCl ["_law_hand_here", "_law_low", "_law_high", "_law_most", "_law_wanted"] [] := FCl.bindsN fun _ _ _ _ _ _ us hl => match us, hl with | [_, _, _, _, _], _ => rfl
  have bFe : L2.Binds K fdFe ["_law_hand_here", "_law_rows"] [] := FFe.bindsN fun _ _ _ _ _ _ us hl => match us, hl with | [_, _], _ => rfl
  have bBa : L2.Binds K fdBa ["_law_hand_here", "_law_c"] [] := FBa.bindsN fun _ _ _ _ _ _ us hl => match us, hl with | [_, _], _ => rfl
  have bEl : L2.Binds K fdEl ["_law_rows"] [] := FEl.bindsN fun _ _ _ _ _ _ us hl => match us, hl with | [_], _ => rfl
  have bPa : L2.Binds K fdPa ["_law_many"] [] := FPa.bindsN fun _ _ _ _ _ _ us hl => match us, hl with | [_], _ => rfl
  have bLU : L2.Binds K fdLU ["_law_elders_here", "_law_lot"] [] := FLU.bindsN fun _ _ _ _ _ _ us hl => match us, hl with | [_, _], _ => rfl
  have bMi : L2.Binds K fdMi ["_law_elders_here", "_law_lots", "_law_clear", "_law_lot"] [] := FMi.bindsN fun _ _ _ _ _ _ us hl => match us, hl with | [_, _, _, _], _ => rfl
  have bM : L2.Binds K fdM ["world"] [] := FM.bindsN fun _ _ _ _ _ _ us hl => match us, hl with | [_], _ => rfl
  have bTw : L2.Binds K fdTw ["world"] [] := FTw.bindsN fun _ _ _ _ _ _ us hl => match us, hl with | [_], _ => rfl
  have bMo : L2.Binds K fdMo ["_law_rows", "_law_methods_here"] [] := FMo.bindsN fun _ _ _ _ _ _ us hl => match us, hl with | [_, _], _ => rfl
  have bW : L2.Binds K fdW ["self", "classes"] [] := FW.bindsN fun _ _ _ _ _ _ us hl => match us, hl with | [_, _], _ => rfl
  have room : Room 12 callerA := ⟨rfl, by decide, by decide⟩
  refine def_at (CX := CX0) (k := 11) (vs := [.ref a]) F sc_law rfl room env0 bind (.cons rfl .nil) fun cdv => ?_
  have hr := room.deeper (envOfC ("law" : Str) (defScope (top 49)) s.heap.objs.size f cdv)
  have hu : (callerA.deeper (envOfC ("law" : Str) (defScope (top 49)) s.heap.objs.size f cdv)).units + 65 < cLine := by
    have := hr.un
    omega
  refine ⟨_, PSs.nox (pss_cons (ps_set (i := 1) sc_law.nd rfl (Or.inl rfl) (pe_call GHa (hr.mono (by decide)) (by rfl) mHa FHa.kp bHa .nil pass0 (pa_cons (pv 0) pa_nil)))
      (pss_cons (ps_set (i := 2) sc_law.nd rfl (Or.inr rfl) (pe_call GFe (hr.mono (by decide)) (by rfl) mFe FFe.kp bFe .nil pass0 (pa_cons (pv 1) (pa_cons (pe_call GCl (hr.mono (by decide)) (by rfl) mCl FCl.kp bCl .nil pass0 (pa_cons (pv 1) (pa_cons pe_int (pa_cons pe_int (pa_cons pe_int (pa_cons pe_bl pa_nil)))))) pa_nil))))
      (pss_cons (ps_set (i := 3) sc_law.nd rfl (Or.inl rfl) (pe_make MW GW (hr.mono (by decide)) (by rfl) mW bW .nil (passOut (E := fun _ _ _ => False)) (pa_cons (pv 2) pa_nil)))
      (pss_cons (ps_set (i := 4) sc_law.nd rfl (Or.inr rfl) (pe_call GEl (hr.mono (by decide)) (by rfl) mEl FEl.kp bEl .nil pass0 (pa_cons (pv 2) pa_nil)))
      (pss_cons (ps_set (i := 5) sc_law.nd rfl (Or.inl rfl) (pe_call GPa (hr.mono (by decide)) (by rfl) mPa FPa.kp bPa .nil pass0 (pa_cons (pe_callB call_len_seq (by rfl) B.len PySem.boot_len (pa_cons (pv 2) pa_nil)) pa_nil)))
      (pss_cons (ps_setLc (i := 6) (own := [("_law_lot", 7)]) (g := gName 7) (tt := tTest (tOp (rEqD K) (tCall spLUncl [] E0 (tCons (tVar 4) (tCons (tVar 7) tNil))) (tLst tNil))) (te := tVar 7) rfl sc_law.nd rfl rfl (sw_true rfl rfl rfl (by decide +kernel)) (pi_list (pv 5)) (blkOk_by (N := ["_law_script", "_law_hand_here", "_law_rows", "_law_world", "_law_elders_here", "_law_lots", "_law_clear", "_law_lot", "_law_due", "_law_name", "_law_c", "_law_longer", "_law_told", "_law_pair", "_law_full", "_law_at", "_law_rest", "_law_less", "_law_left"]) (sc := defScope (top 49)) (by decide +kernel)) (fun _ _ _ _ _ => pg_name (i := 7) sc_law.nd rfl (Or.inl rfl)) (fun _ _ _ _ _ => ?tt6) (fun _ _ _ _ _ => pv 7))
      (pss_cons (ps_set (i := 8) sc_law.nd rfl (Or.inl rfl) (pe_lst pa_nil))
      (pss_cons (ps_for PassesOwn.never rfl (pi_range1 (by rfl) B.range (pa_cons pe_int pa_nil)) (pg_name (i := 9) sc_law.nd rfl (Or.inr rfl))
        (pss_cons (ps_setLc (i := 7) (own := [("_law_c", 10)]) (g := gName 10) (tt := tTest (tOp (rIn K false) (tVar 9) (tOp (rIxT K) (tOp (rIxL K) (tVar 2) (tVar 10)) (tC (.int 2))))) (te := tVar 10) rfl sc_law.nd rfl rfl (sw_true rfl rfl rfl (by decide +kernel)) (pi_range1 (by rfl) B.range (pa_cons (pe_callB call_len_seq (by rfl) B.len PySem.boot_len (pa_cons (pv 2) pa_nil)) pa_nil)) (blkOk_by (N := ["_law_script", "_law_hand_here", "_law_rows", "_law_world", "_law_elders_here", "_law_lots", "_law_clear", "_law_lot", "_law_due", "_law_name", "_law_c", "_law_longer", "_law_told", "_law_pair", "_law_full", "_law_at", "_law_rest", "_law_less", "_law_left"]) (sc := defScope (top 49)) (by decide +kernel)) (fun _ _ _ _ _ => pg_name (i := 10) sc_law.nd rfl (Or.inl rfl)) (fun _ _ _ _ _ => ?tt7) (fun _ _ _ _ _ => pv 10))
        (pss_one (ps_set (i := 8) sc_law.nd rfl (Or.inl rfl) (pe_op op_cat (pv 8) (pe_lc (own := [("_law_c", 10)]) (g := gName 10) (tt := tYes) (te := tTup (tCons (tVar 10) (tCons (tVar 9) tNil))) rfl sc_law.nd (pi_list (pe_call GMi (hr.mono (by decide)) (by rfl) mMi FMi.kp bMi .nil pass0 (pa_cons (pv 4) (pa_cons (pv 5) (pa_cons (pv 6) (pa_cons (pv 7) pa_nil)))))) (blkOk_by (N := ["_law_script", "_law_hand_here", "_law_rows", "_law_world", "_law_elders_here", "_law_lots", "_law_clear", "_law_lot", "_law_due", "_law_name", "_law_c", "_law_longer", "_law_told", "_law_pair", "_law_full", "_law_at", "_law_rest", "_law_less", "_law_left"]) (sc := defScope (top 49)) (by decide +kernel)) (fun _ _ _ _ _ => pg_name (i := 10) sc_law.nd rfl (Or.inl rfl)) (fun _ _ _ _ _ => pts_nil) (fun _ _ _ _ _ => pe_tup (pa_cons (pv 10) (pa_cons (pv 9) pa_nil)))))))))
      (pss_cons (ps_set (i := 8) sc_law.nd rfl (Or.inl rfl) (pe_callB (r := rSortPs K) (call_sortPs (X := _)) (by rfl) B.sorted (by decide +kernel) (pa_cons (pv 8) pa_nil)))
      (pss_cons (ps_if (PW.pt (pw_or (pt_cmpR op_ne (pe_callB (id := "repr") (r := rReprA K) (call_reprA rfl hu) (by rfl) gRp (by decide +kernel) (pa_cons (pe_call GM (hr.mono (by decide)) (by rfl) mM FM.kp bM .nil pass0 (pa_cons (pv 3) pa_nil)) pa_nil)) (pe_callB (id := "repr") (r := rReprA K) (call_reprA rfl hu) (by rfl) gRp (by decide +kernel) (pa_cons (pe_callTy (T := "tuple") (r := rTupOf K) (call_tup (X := _)) (by rfl) B.tuple (by decide +kernel) (pa_cons (pv 8) pa_nil)) pa_nil)) (nomark _))
          (pw_or1 (pt_cmpR op_ne (pe_cmpR (r := rEqD K) (op_eqD (Nat.lt_of_succ_lt hu)) (pv 8) (pe_lst pa_nil) (nomark _)) (pe_cmpR (r := rEqD K) (op_eqD (Nat.lt_of_succ_lt hu)) (pe_call GTw (hr.mono (by decide)) (by rfl) mTw FTw.kp bTw .nil pass0 (pa_cons (pv 3) pa_nil)) (pe_tup pa_nil) (nomark _)) (nomark _))))) (pss_one (ps_ret pe_bl)) pss_nil)
      (pss_cons (ps_set (i := 11) sc_law.nd rfl (Or.inl rfl) (pe_make MW GW (hr.mono (by decide)) (by rfl) mW bW .nil (passOut (E := fun _ _ _ => False)) (pa_cons (pe_op op_cat (pv 2) (pe_lst (pa_cons (pe_tup (pa_cons (pe_call GBa (hr.mono (by decide)) (by rfl) mBa FBa.kp bBa .nil pass0 (pa_cons (pv 1) (pa_cons (pe_callB call_len_seq (by rfl) B.len PySem.boot_len (pa_cons (pv 2) pa_nil)) pa_nil))) (pa_cons pe_int (pa_cons (pe_lst pa_nil) pa_nil)))) pa_nil))) pa_nil)))
      (pss_cons (ps_set (i := 12) sc_law.nd rfl (Or.inl rfl) (pe_call GM (hr.mono (by decide)) (by rfl) mM FM.kp bM .nil pass0 (pa_cons (pv 11) pa_nil)))
      (pss_cons (ps_if (pt_cmpR op_ne (pe_callB (id := "repr") (r := rReprA K) (call_reprA rfl hu) (by rfl) gRp (by decide +kernel) (pa_cons (pe_callTy (T := "tuple") (r := rTupOf K) (call_tup (X := _)) (by rfl) B.tuple (by decide +kernel) (pa_cons
            (pe_lc (own := [("_law_pair", 13)]) (g := gName 13) (tt := tTest (tOp (rI0 fun i j => V.bl (decide (i < j))) (tOp (rIxT K) (tVar 13) (tC (.int 0))) (tCB (rLenS K) (tCons (tVar 2) tNil)))) (te := tVar 13) rfl sc_law.nd (pi_tup (pv 12)) (blkOk_by (N := ["_law_script", "_law_hand_here", "_law_rows", "_law_world", "_law_elders_here", "_law_lots", "_law_clear", "_law_lot", "_law_due", "_law_name", "_law_c", "_law_longer", "_law_told", "_law_pair", "_law_full", "_law_at", "_law_rest", "_law_less", "_law_left"]) (sc := defScope (top 49)) (by decide +kernel)) (fun _ _ _ _ _ => pg_name (i := 13) sc_law.nd rfl (Or.inl rfl)) (fun _ _ _ _ _ => ?tt13) (fun _ _ _ _ _ => pv 13)) pa_nil)) pa_nil))
          (pe_callB (id := "repr") (r := rReprA K) (call_reprA rfl hu) (by rfl) gRp (by decide +kernel) (pa_cons (pe_callTy (T := "tuple") (r := rTupOf K) (call_tup (X := _)) (by rfl) B.tuple (by decide +kernel) (pa_cons (pv 8) pa_nil)) pa_nil)) (nomark _)) (pss_one (ps_ret pe_bl)) pss_nil)
      (pss_cons (ps_set (i := 14) sc_law.nd rfl (Or.inl rfl) (pe_call GMo (hr.mono (by decide)) (by rfl) mMo FMo.kp bMo .nil pass0 (pa_cons (pv 2) (pa_cons (pv 8) pa_nil))))
      (pss_cons (ps_if (pt_cmpR op_notN (pv 14) pe_non (nomark _))
        (pss_cons (ps_if (PW.pt (pw_or (pt_cmpR (r := rNeD K) (op_neD (Nat.lt_of_succ_lt hu)) (pe_call GTw (hr.mono (by decide)) (by rfl) mTw FTw.kp bTw .nil pass0 (pa_cons (pe_make MW GW (hr.mono (by decide)) (by rfl) mW bW .nil (passOut (E := fun _ _ _ => False)) (pa_cons (pv 14) pa_nil)) pa_nil)) (pe_tup pa_nil) (nomark _))
            (pw_or1 (pt_cmpR (r := rNeD K) (op_neD (Nat.lt_of_succ_lt hu)) (pe_call GM (hr.mono (by decide)) (by rfl) mM FM.kp bM .nil pass0 (pa_cons (pe_make MW GW (hr.mono (by decide)) (by rfl) mW bW .nil (passOut (E := fun _ _ _ => False)) (pa_cons (pv 14) pa_nil)) pa_nil)) (pe_tup pa_nil) (nomark _))))) (pss_one (ps_ret pe_bl)) pss_nil)
        (pss_one (ps_for PassesOwn.never rfl (pi_range1 (by rfl) B.range (pa_cons (pe_callB call_len_seq (by rfl) B.len PySem.boot_len (pa_cons (pv 8) pa_nil)) pa_nil)) (pg_name (i := 15) sc_law.nd rfl (Or.inl rfl))
          (pss_cons (ps_set (i := 16) sc_law.nd rfl (Or.inl rfl) (pe_op op_cat (pe_slice sl_list (pv 8) po_none (po_some (pv 15))) (pe_slice sl_list (pv 8) (po_some (pe_op op_add (pv 15) pe_int)) po_none)))
          (pss_cons (ps_set (i := 17) sc_law.nd rfl (Or.inl rfl) (pe_make MW GW (hr.mono (by decide)) (by rfl) mW bW .nil (passOut (E := fun _ _ _ => False)) (pa_cons (pe_call GMo (hr.mono (by decide)) (by rfl) mMo FMo.kp bMo .nil pass0 (pa_cons (pv 2) (pa_cons (pv 16) pa_nil))) pa_nil)))
          (pss_cons (ps_set (i := 18) sc_law.nd rfl (Or.inl rfl) (pe_call GM (hr.mono (by decide)) (by rfl) mM FM.kp bM .nil pass0 (pa_cons (pv 17) pa_nil)))
          (pss_one (ps_if (PW.pt (pw_or (pt_cmpR (r := rEqD K) (op_eqD (Nat.lt_of_succ_lt hu)) (pe_call GTw (hr.mono (by decide)) (by rfl) mTw FTw.kp bTw .nil pass0 (pa_cons (pv 17) pa_nil)) (pe_tup pa_nil) (nomark _))
              (pw_or1 (pt_cmpR op_ne (pe_callB (id := "repr") (r := rReprA K) (call_reprA rfl hu) (by rfl) gRp (by decide +kernel) (pa_cons (pv 18) pa_nil)) (pe_callB (id := "repr") (r := rReprA K) (call_reprA rfl hu) (by rfl) gRp (by decide +kernel) (pa_cons (pe_tup (pa_cons (pe_ix (r := rIxL K) ix_list (pv 8) (pv 15) (fun _ _ => rfl)) pa_nil)) pa_nil)) (nomark _))))) (pss_one (ps_ret pe_bl)) pss_nil)))))))) pss_nil)
      (pss_one (ps_ret pe_bl))))))))))))))))), ?_⟩
  case tt6 => exact pts_one (pt_cmpR (r := rEqD K) (op_eqD (Nat.lt_of_succ_lt hu)) (pe_call GLU (hr.mono (by decide)) (by rfl) mLU FLU.kp bLU .nil pass0 (pa_cons (pv 4) (pa_cons (pv 7) pa_nil))) (pe_lst pa_nil) (nomark _))
  case tt7 => exact pts_one (pt_cmpR (r := rIn K false) op_in_seq (pv 9) (pe_ix (r := rIxT K) ix_tup (pe_ix (r := rIxL K) ix_list (pv 2) (pv 10) (fun _ _ => rfl)) pe_int (fun _ _ => rfl)) (by rfl))
  case tt13 => exact pts_one (pt_cmpR op_lt (pe_ix (r := rIxT K) ix_tup (pv 13) pe_int (fun _ _ => rfl)) (pe_callB (id := "len") (r := rLenS K) (call_lenS (X := _)) (by rfl) B.len PySem.boot_len (pa_cons (pv 2) pa_nil)) (nomark _))
  -- the hand, the rows
  refine ⟨_, rfl, a, ns, rfl, hA, hns, fun p q H1 s1 hp hq hh => ?_⟩
  refine ⟨_, rfl, _, rfl, p, q, 1, 6, 3, true, rfl, by decide, by decide, by decide, hh, fun l0 H2 us0 ds0 O2 h2 hl0 hl2 hR0 lo1 hi1 ok0 => ?_⟩
  obtain ⟨l0p, l0q⟩ := hh.ne hl0
  refine ⟨p, q, l0, us0, ds0, rfl, h2, l0p, hl2, hR0, ok0, by omega, fun l H3 us ds O3 h3 lp hl3 hR len ok => ?_⟩
  rw [← len] at lo1 hi1
  have h12 : ds.length ≤ 12 := by omega
  have usl : us.length = ds.length := hR.len
  have T0 : Tabs (tabs1 Pt) H := fun x hx => by
    rw [List.mem_singleton.mp hx]
    exact TabS.nil hTb
  have T3 : Tabs (tabs1 Pt) H3 := (((KJ.of s1).trans (KJ.oth O2 hh)).trans (KJ.oth O3 h2)).2 T0
  -- the world, the elders
  refine ⟨_, rfl, fun wp wdx hwp hwdx wne => world_q hl3 hR ok lo1 h12 hwp hwdx wne fun H5 s5 hW5 => ⟨rfl, ?_⟩⟩
  refine ⟨_, rfl, l, us, ds.map (·.1), rfl, s5 _ _ hl3, (hR.keep (KeepX.of s5)).rows, ok.valid, by rw [List.length_map]; omega, fun row hr => by have := ok.short row hr; rw [List.length_map]; have h4 : row.length * ds.length ≤ 5 * 6 := Nat.mul_le_mul this hi1; omega, fun H10 el es s6 hel hel10 hne hL => ?_⟩
  have hL : ListsAt H10 es (elsOf ds) := hL
  have hW10 := hW5.mono s6
  have s36 := s5.trans s6
  have hl10 := s36 _ _ hl3
  have hR10 : RwN l H10 us ds := hR.keep (KeepX.of s36)
  have T10 := (KJ.of s36).2 T3
  have h10 := h3.same s36
  clear hwp hwdx wne hW5 hR
  -- the lots
  refine ⟨_, rfl, l, us, rfl, .inl (SqL.of hl10), us.length, rfl, by omega, T10, fun Dp H13 pus bs e13 T13 hDp hP perm => ?_⟩
  have k13 : KJ (tabs1 Pt) H10 H13 := KJ.ext e13 T13
  have h13 := h10.extN e13
  have nE : ¬ HandLike (.lst es) := nh_refs hL.refs
  have nU : ¬ HandLike (.lst us) := nh_refs hR10.refs
  have hel13 := k13.1 _ _ hel10 nE nt_lst
  have hL13 := hL.kj k13
  have hW13 := hW10.kj k13
  have hl13 := k13.1 _ _ hl10 nU nt_lst
  have hR13 := hR10.kj k13
  rw [usl] at perm
  have blen : bs.length ≤ 64 := by
    rw [perm.length_eq, parts_len]
    exact Nat.le_trans (Nat.pow_le_pow_right (by decide) hi1) (by decide)
  clear e13 T13 T10 T3 T0 k13 hel hne hel10 hL hW10 h10 hR10 hl10 O3 O2 h2 s5 s6 s36
  -- the clear lots
  refine ⟨_, rfl, Dp, rfl, ⟨_, SqL.of hDp⟩, fun Dc hDc => lc_list (K := K) (a := Dp) (xs := pus) (fun j H' => Same H13 H' ∧ ∃ cus, H' Dc = some (.lst cus) ∧ (∀ v ∈ cus, v ≠ .ref Dc) ∧ ListsAt H' cus ((bs.take j).filter fun M => (unclearL ds M).isEmpty)) ⟨same_new hDc, [], upd_same, (fun v hv => by cases hv), .nil⟩ (fun j H' _ z => SqL.of (z.1 _ _ hDp)) ?_ ?_⟩
  · rintro j v H14 hj ⟨s14, cus, hD14, nD, hC⟩
    obtain ⟨M, hM⟩ : ∃ part, bs[j]? = some part := ⟨_, List.getElem?_eq_getElem (by rw [← hP.len]; exact (List.getElem?_eq_some_iff.mp hj).1)⟩
    obtain ⟨t, et, ht⟩ := hP.get hM
    rw [hj] at et
    obtain rfl := Option.some.inj et
    have cl := hC.len
    have cl2 : ((bs.take j).filter fun M => (unclearL ds M).isEmpty).length ≤ 64 := by
      refine Nat.le_trans (List.length_filter_le _ _) ?_
      rw [List.length_take]
      omega
    refine ⟨rfl, _, rfl, _, rfl, el, t, es, ds, M, rfl, s14 _ _ hel13, ListsAt.sameN s14 hL13, ok, h12, s14 _ _ ht, fun E H15 s15 hEn hE => ⟨(by show 0 ≤ sizeLine; decide), fun Em hEm => ?_⟩⟩
    have sE := same_new (o := .lst []) hEm
    refine ⟨dR false (unclearL ds M), .list [], .lst (SqL.of (sE _ _ hE)) (dp_nats _), .lst (SqL.of (xs := []) upd_same) .nil, (lay_nl _).shaped (by decide), rfl, _, rfl, ?_⟩
    rw [eqv_nil]
    have st := take_anyN (p := fun M => (unclearL ds M).isEmpty) hM
    have s16 := s15.trans sE
    have hDcE := s16 _ _ hD14
    cases hb : (unclearL ds M).isEmpty with
    | true =>
      rw [hb, if_pos rfl] at st
      have tD : t ≠ Dc := ne_of_none ht hDc
      refine iteT' rfl ⟨_, rfl, cus, hDcE, (by show _ < 2 ^ 24; omega), same_upd (s14.trans s16) hDc, cus ++ [.ref t], upd_same, fun v hv => ?_, ?_⟩
      · rcases List.mem_append.mp hv with hv | hv
        · exact nD v hv
        · rw [List.mem_singleton.mp hv]
          exact fun z => tD (V.ref.inj z)
      · rw [st]
        refine (ListsAt.mono (R := Dc) (fun b o hb e => upB hb (s16 _ _ e)) nD hC).app (.cons ⟨t, rfl, ?_⟩ .nil)
        exact upB tD (s16 _ _ (s14 _ _ ht))
    | false =>
      rw [hb, if_neg (by decide), List.append_nil] at st
      exact iteF' rfl ⟨s14.trans s16, cus, hDcE, nD, by rw [st]; exact ListsAt.sameN s16 hC⟩
  rintro H15 ⟨s15, cus, hDc15, nDc, hC⟩
  rw [hP.len, List.take_length] at hC
  generalize hcl : (bs.filter fun M => (unclearL ds M).isEmpty) = cl at hC
  have memC : ∀ M, M ∈ cl ↔ M ∈ bs ∧ ClearL ds M := fun M => by
    rw [← hcl, List.mem_filter, any_clear]
  have cl64 : cl.length ≤ 64 := by
    rw [← hcl]
    exact Nat.le_trans (List.length_filter_le _ _) blen
  have h15 := h13.same s15
  have hel15 := s15 _ _ hel13
  have hL15 := ListsAt.sameN s15 hL13
  have hW15 := hW13.mono s15
  have hl15 := s15 _ _ hl13
  have hR15 : RwN l H15 us ds := hR13.keep (KeepX.of s15)
  have esl : es.length = ds.length := by rw [hL15.len, elsOf_len]
  clear nDc hDc hcl s15 h13 hel13 hL13 hW13 hl13 hR13 hDp hP nE nU
  -- what is due
  refine ⟨by decide, fun D8 hD8 => ?_⟩
  have sD8 := same_new (o := .lst []) hD8
  refine ⟨6, rfl, by decide, by decide, for_range (n := 6) (fun i σ H' => Same H15 H' ∧ ∃ E ws x7 x9, σ = [some (.ref a), some (.ref p), some (.ref l), some (.ref wp), some (.ref el), some (.ref Dp), some (.ref Dc), x7, some (.ref E), x9, none, none, none, none, none, none, none, none, none] ∧ H' E = some (.lst ws) ∧ PairsAt H' ws (foundUp ds i)) ⟨sD8, D8, [], none, none, rfl, upd_same, .nil⟩ ?_ ?_⟩
  · rintro m σ H16 hm ⟨s16, E, ws, x7, x9, rfl, hE, hP⟩
    have em : (0 : Int) + (m : Int) = (m : Int) := by omega
    rw [em]
    refine ⟨_, rfl, l, us, rfl, .inl (SqL.of (s16 _ _ hl15)), us.length, rfl, by omega, by omega, fun D7 hD7 => lc_range (n := us.length) (fun c H' => Same H16 H' ∧ H' D7 = some (.lst (((List.range c).filter fun c => (methsOf ds c).contains m).map natV))) ⟨same_new hD7, upd_same⟩ ?_ ?_⟩
    · rintro c H17 hc ⟨s17, hD17⟩
      have ec : (0 : Int) + (c : Int) = (c : Int) := by omega
      rw [ec]
      obtain ⟨d, hd⟩ : ∃ d, ds[c]? = some d := ⟨_, List.getElem?_eq_getElem (by omega)⟩
      obtain ⟨t, b, mm, et, ht, hb, hm2⟩ := hR15.get hd
      have z17 := s16.trans s17
      have emd : methsOf ds c = d.2.2 := by
        unfold methsOf
        rw [List.getD_eq_getElem?_getD, hd]
        rfl
      refine ⟨rfl, _, rfl, _, rfl, _, rfl, l, us, (c : Int), _, rfl, rfl, SqL.of (z17 _ _ hl15), atI_nat et, t, _, 2, _, rfl, rfl, SqT.of (z17 _ _ ht), rfl, mm, _, rfl, .inl (SqL.of (z17 _ _ hm2)), rfl, flat_nats _, _, rfl, ?_⟩
      have ein : inV (natV m) (d.2.2.map natV) = (methsOf ds c).contains m := by rw [emd]; exact inV_nat _ _
      show (if inV (natV m) (d.2.2.map natV) = true then _ else _)
      rw [ein]
      have st := filter_takeN (fun c => (methsOf ds c).contains m) c
      cases hb : (methsOf ds c).contains m with
      | true =>
        rw [hb, if_pos rfl] at st
        refine iteT' rfl ⟨_, rfl, _, hD17, ?_, same_upd s17 hD7, by rw [st, List.map_append, upd_same]; rfl⟩
        rw [List.length_map]
        refine Nat.lt_of_le_of_lt (List.length_filter_le _ _) ?_
        rw [List.length_range]
        show _ < 2 ^ 24
        omega
      | false =>
        rw [hb, if_neg (by decide), List.append_nil] at st
        exact iteF' rfl ⟨s17, by rw [st]; exact hD17⟩
    rintro H17 ⟨s17, hD17⟩
    rw [usl] at hD17
    have hD17 : H17 D7 = some (.lst ((rowL ds m).map natV)) := hD17
    have z17 := s16.trans s17
    have rl := rowL_len (ds := ds) (m := m)
    refine ⟨_, rfl, _, rfl, _, rfl, _, rfl, _, rfl, el, Dp, Dc, D7, es, cus, cl, rowL ds m, rfl, z17 _ _ hel15, by omega, z17 _ _ hDc15, ListsAt.sameN z17 hC, cl64, hD17, by omega, fun D2 H18 s18 hD2 => ?_⟩
    rw [esl, miss_eq ok perm memC] at hD2
    have mlen : (missM ds m).length ≤ 12 := Nat.le_trans (List.length_filter_le _ _) (Nat.le_trans upS_len h12)
    refine ⟨D2, rfl, ⟨_, SqL.of hD2⟩, fun D3 hD3 => lc_list (K := K) (a := D2) (xs := (missM ds m).map natV) (fun j H' => Same H18 H' ∧ ∃ eus, H' D3 = some (.lst eus) ∧ PairsAt H' eus (((missM ds m).take j).map fun c => (c, m))) ⟨same_new hD3, [], upd_same, .nil⟩ (fun j H' _ z => SqL.of (z.1 _ _ hD2)) ?_ ?_⟩
    · rintro j v H19 hj ⟨s19, eus, hD19, hP19⟩
      rw [List.getElem?_map] at hj
      obtain ⟨x, hx, rfl⟩ := Option.map_eq_some_iff.mp hj
      have el2 : eus.length ≤ 12 := by
        rw [hP19.len, List.length_map, List.length_take]
        omega
      refine ⟨rfl, _, rfl, _, rfl, (by show 2 ≤ sizeLine; decide), fun T hT => ⟨eus, same_new hT _ _ hD19, by show _ < 2 ^ 24; omega, ?_⟩⟩
      have sT := same_new (o := .tup [natV x, natV m]) hT
      have hDT := sT _ _ hD19
      have TD : T ≠ D3 := Ne.symm (ne_of_none hD19 hT)
      refine ⟨same_upd (s19.trans sT) hD3, eus ++ [.ref T], upd_same, ?_⟩
      rw [List.take_add_one, hx, Option.toList_some, List.map_append]
      exact ((hP19.same sT).keep hDT (Oth.upd (Oth.of (Same.refl _)))).app (.cons ⟨T, rfl, upB TD upd_same⟩ .nil)
    rintro H19 ⟨s19, eus, hD19, hP19⟩
    rw [List.length_map, List.take_length] at hP19
    have y19 := s17.trans (s18.trans s19)
    have l1 := foundUp_len (ds := ds) (k := m)
    have l2 : ds.length * m ≤ 12 * 6 := Nat.mul_le_mul h12 (by omega)
    have l3 := hP.len
    have l4 : eus.length ≤ 12 := by
      rw [hP19.len, List.length_map]
      exact mlen
    refine ⟨E, D3, ws, eus, rfl, rfl, y19 _ _ hE, hD19, (by show _ ≤ 2 ^ 24; omega), fun N hN => ?_⟩
    have sN := same_new (o := .lst (ws ++ eus)) hN
    refine ⟨s16.trans (y19.trans sN), N, ws ++ eus, _, _, rfl, upd_same, ?_⟩
    rw [found_succ]
    exact (hP.same (y19.trans sN)).app (hP19.same sN)
  rintro σ H16 ⟨s16, E, ws, x7, x9, rfl, hE, hP⟩
  refine ⟨_, rfl, E, ws, foundUp ds 6, rfl, SqL.of hE, hP, found_nodup, fun ys qs D9 hq prm so hD9 => ?_⟩
  rw [found_sorted prm so] at hq
  have sD9 := same_new (o := .lst ys) hD9
  have hE9 : upd H16 D9 (.lst ys) D9 = some (.lst ys) := upd_same
  have hq := hq.same sD9
  have z17 := s16.trans sD9
  generalize upd H16 D9 (.lst ys) = H17 at sD9 hE9 hq z17 ⊢
  have hW17 := hW15.mono z17
  have h17 := h15.same z17
  have hl17 := z17 _ _ hl15
  have hR17 : RwN l H17 us ds := hR15.keep (KeepX.of z17)
  clear hE hP hD9 sD9 s16 z17 hC hDc15 hel15 hL15 hW15 h15 hl15 hR15 prm so hD8 sD8
  have p72 : (missP ds).length ≤ 72 := by
    have := missP_len (ds := ds)
    omega
  have p16 : ∀ x ∈ missP ds, x.1 < 16 ∧ x.2 < 16 := fun x hx => by
    have := missP_lt hx
    omega
  have ylen : ys.length = (missP ds).length := hq.len
  -- what the program misses
  refine ⟨_, rfl, wp, ds, rfl, hW17, ok, h12, fun t us2 H18 s18 ht hP18 => ⟨_, _, 2, 792, rfl, .tup (SqT.of ht) (dp_pairs hP18), sm_pairs (n := 72) p16 p72, by decide, by decide, _, rfl, ?_⟩⟩
  refine tup_q (.inl (s18 _ _ hE9)) fun t2 H19 s19 ht2 => ⟨_, _, 2, 792, rfl, .tup (SqT.of ht2) (dp_pairs (hq.same (s18.trans s19))), sm_pairs (n := 72) p16 p72, by decide, by decide, rfl, _, rfl, iteF' ne_self ?_⟩
  have z19 := s18.trans s19
  refine ⟨_, rfl, (by show 0 ≤ sizeLine; decide), fun E1 hE1 => ?_⟩
  have sE1 := same_new (o := .lst []) hE1
  refine ⟨.list ((missP ds).map dPair), .list [], .lst (SqL.of (sE1 _ _ (z19 _ _ hE9))) (dp_pairs (hq.same (z19.trans sE1))), .lst (SqL.of (xs := []) upd_same) .nil, (lay_pairs _).shaped (by decide), rfl, ?_⟩
  have z20 := z19.trans sE1
  refine ⟨_, rfl, wp, ds, rfl, hW17.mono z20, ok, h12, fun t3 us3 H21 s21 ht3 hP21 => ⟨(by show 0 ≤ sizeLine; decide), fun E2 hE2 => ?_⟩⟩
  have sE2 := same_new (o := .tup []) hE2
  refine ⟨.tuple ((twoUp ds ds.length).map dPair), .tuple [], .tup (SqT.of (sE2 _ _ ht3)) (dp_pairs (hP21.same sE2)), .tup (SqT.of (xs := []) upd_same) .nil, (lay_pairsT _).shaped (by decide), rfl, rfl, _, rfl, ?_⟩
  rw [eqv_pairs_nil, eqv_pairsT_nil]
  have eE : (missP ds).isEmpty = (twoUp ds ds.length).isEmpty := by
    rw [Bool.eq_iff_iff, List.isEmpty_iff, List.isEmpty_iff]
    exact miss_two ok
  rw [eE]
  refine iteF' ne_self ?_
  have z22 := z20.trans (s21.trans sE2)
  generalize upd H21 E2 (.tup []) = H22 at sE2 z22 ⊢
  have hW22 := hW17.mono z22
  have h22 := h17.same z22
  have hl22 := z22 _ _ hl17
  have hR22 : RwN l H22 us ds := hR17.keep (KeepX.of z22)
  have hE22 := z22 _ _ hE9
  have hq22 := hq.same z22
  clear sE2 hE2 hP21 ht3 s21 z20 hE1 sE1 z19 s18 s19 ht2 ht hP18 hW17 h17 hl17 hR17 hE9 hq z22
  -- a class more
  refine ⟨_, rfl, _, rfl, _, rfl, l, us, rfl, .inl (SqL.of hl22), p, q, us.length, rfl, by omega, h22, fun bl H6 mb O6 h6 hbn hb6 mnd mlt m3 => ?_⟩
  obtain ⟨blp, blq⟩ := h22.ne hbn
  refine ⟨(by show 0 ≤ sizeLine; decide), fun Me hMe => ?_⟩
  have sMe := same_new (o := .lst []) hMe
  refine ⟨(by show 3 ≤ sizeLine; decide), fun Tn hTn => ⟨(by show 1 ≤ sizeLine; decide), fun L1 hL1 => ?_⟩⟩
  have sT := same_new (o := .tup [.ref bl, .int 0, .ref Me]) hTn
  have sL1 := same_new (o := .lst [.ref Tn]) hL1
  have k6 : KJ (tabs1 Pt) H22 H6 := KJ.oth O6 h22
  have hl6 := O6 _ _ lp hl22
  have hR6 : RwN l H6 us ds := hR22.keep (KeepX.oth O6 h22)
  have s67 := (sMe.trans sT).trans sL1
  refine ⟨l, L1, us, [.ref Tn], rfl, rfl, s67 _ _ hl6, upd_same, (by rw [usl]; show _ + 1 ≤ 2 ^ 24; omega), fun Mn hMn => ?_⟩
  have TT := sL1 _ _ (upd_same (H := upd H6 Me (.lst [])) (a := Tn) (o := .tup [.ref bl, .int 0, .ref Me]))
  have MeT := (sT.trans sL1) _ _ (upd_same (H := H6) (a := Me) (o := .lst []))
  have sM := same_new (o := .lst (us ++ [.ref Tn])) hMn
  have s68 := s67.trans sM
  have M8 := upd_same (H := upd (upd (upd H6 Me (.lst [])) Tn (.tup [.ref bl, .int 0, .ref Me])) L1 (.lst [.ref Tn])) (a := Mn) (o := .lst (us ++ [.ref Tn]))
  have hb7 := s67 _ _ hb6
  have hRm : RwN Mn (upd (upd (upd (upd H6 Me (.lst [])) Tn (.tup [.ref bl, .int 0, .ref Me])) L1 (.lst [.ref Tn])) Mn (.lst (us ++ [.ref Tn]))) (us ++ [.ref Tn]) (ds ++ [((mb, 0, []) : Ent)]) := by
    refine (((hR6.keep (KeepX.of s67)).new hMn).keep (KeepX.of sM)).app (.cons ⟨Tn, bl, Me, rfl, ne_of_none TT hMn, sM _ _ TT, ne_of_none hb7 hMn, sM _ _ hb7, ne_of_none MeT hMn, sM _ _ MeT⟩ .nil)
  have okD : DsOk (ds ++ [((mb, 0, []) : Ent)]) := ok.app ⟨mnd, by rw [← usl]; exact mlt, Nat.le_trans m3 (by decide), Nat.zero_le _, .nil, fun b hb => absurd hb List.not_mem_nil, Nat.zero_le _⟩
  have dl : (ds ++ [((mb, 0, []) : Ent)]).length = ds.length + 1 := by rw [List.length_append, List.length_singleton]
  generalize upd (upd (upd (upd H6 Me (.lst [])) Tn (.tup [.ref bl, .int 0, .ref Me])) L1 (.lst [.ref Tn])) Mn (.lst (us ++ [.ref Tn])) = H8 at s68 M8 hRm ⊢
  clear TT MeT sM sL1 sT sMe s67 hMn hL1 hTn hMe hb7
  refine fun w2 w2d hw2 hw2d w2n => world_q M8 hRm okD (by omega) (by omega) hw2 hw2d w2n fun H9 s9 hV9 => ⟨rfl, ?_⟩
  have k9 := k6.trans (KJ.of (s68.trans s9))
  have hl9 := (s68.trans s9) _ _ hl6
  have hR9 : RwN l H9 us ds := hR6.keep (KeepX.of (s68.trans s9))
  have nY : ¬ HandLike (.lst ys) := nh_refs fun v hv => by
    obtain ⟨t, i, j, rfl, _⟩ := hq22.mem v hv
    exact ⟨t, rfl⟩
  have hE9 := k9.1 _ _ hE22 nY nt_lst
  have hq9 : PairsAt H9 ys (missP ds) := by
    exact PairsAt.kj k9 hq22
  clear hw2 hw2d w2n M8 hRm s68 k6 O6 hb6 hbn s9 k9 hq22 hE22 hR22 hl22 h22 hW22 hR6 hl6
  refine ⟨_, rfl, w2, _, rfl, hV9, okD, by omega, fun t us2 H10 s10 ht hP10 => ?_⟩
  refine ⟨_, rfl, t, rfl, ⟨_, SqT.of ht⟩, fun D hD => lc_tup (K := K) (a := t) (xs := us2) (fun j H' => Same H10 H' ∧ ∃ dus, H' D = some (.lst dus) ∧ PairsAt H' dus (((missP (ds ++ [((mb, 0, []) : Ent)])).take j).filter fun p => decide (p.1 < ds.length))) ⟨same_new hD, [], upd_same, .nil⟩ (fun j H' _ z => SqT.of (z.1 _ _ ht)) ?_ ?_⟩
  · rintro j v H11 hj ⟨s11, dus, hD11, hP11⟩
    obtain ⟨x, t2, hx, rfl, ht2⟩ := hP10.at hj
    have z11 := s10.trans s11
    refine ⟨rfl, _, rfl, t2, _, 0, _, rfl, rfl, SqT.of (s11 _ _ ht2), rfl, _, rfl, l, us, rfl, .inl (SqL.of (z11 _ _ hl9)), _, _, rfl, rfl, _, rfl, ?_⟩
    have st : ((missP (ds ++ [((mb, 0, []) : Ent)])).take (j + 1)).filter (fun p => decide (p.1 < ds.length)) = ((missP (ds ++ [((mb, 0, []) : Ent)])).take j).filter (fun p => decide (p.1 < ds.length)) ++ (if x.1 < ds.length then [x] else []) := by
      rw [List.take_add_one, hx, Option.toList_some, List.filter_append]
      congr 1
      by_cases z : x.1 < ds.length
      · rw [List.filter_cons_of_pos (p := fun (p : Nat × Nat) => decide (p.1 < ds.length)) (by exact decide_eq_true z), if_pos z]
        rfl
      · rw [List.filter_cons_of_neg (p := fun (p : Nat × Nat) => decide (p.1 < ds.length)) (by rw [decide_eq_true_iff]; exact z), if_neg z]
        rfl
    have dul : dus.length ≤ 84 := by
      rw [hP11.len]
      refine Nat.le_trans (List.length_filter_le _ _) ?_
      rw [List.length_take]
      have := missP_len (ds := ds ++ [((mb, 0, []) : Ent)])
      rw [dl] at this
      omega
    by_cases z : x.1 < ds.length
    · rw [if_pos z] at st
      have TD : t2 ≠ D := ne_of_none ht2 hD
      refine iteT' (decide_eq_true (by omega)) ⟨_, rfl, dus, hD11, (by show _ < 2 ^ 24; omega), same_upd s11 hD, dus ++ [.ref t2], upd_same, ?_⟩
      rw [st]
      exact (hP11.keep hD11 (Oth.upd (Oth.of (Same.refl _)))).app (.cons ⟨t2, rfl, upB TD (s11 _ _ ht2)⟩ .nil)
    · rw [if_neg z, List.append_nil] at st
      exact iteF' (decide_eq_false (by omega)) ⟨s11, dus, hD11, by rw [st]; exact hP11⟩
  rintro H11 ⟨s11, dus, hD11, hP11⟩
  rw [hP10.len, List.take_length, missP_more] at hP11
  have z11 := s10.trans s11
  refine tup_q (.inl hD11) fun t2 H12 s12 ht2 => ⟨_, _, 2, 792, rfl, .tup (SqT.of ht2) (dp_pairs (hP11.same s12)), sm_pairs (n := 72) p16 p72, by decide, by decide, _, rfl, ?_⟩
  have z12 := z11.trans s12
  refine tup_q (.inl (z12 _ _ hE9)) fun t3 H13' s13 ht3 => ⟨_, _, 2, 792, rfl, .tup (SqT.of ht3) (dp_pairs (hq9.same (z12.trans s13))), sm_pairs (n := 72) p16 p72, by decide, by decide, rfl, _, rfl, iteF' ne_self ?_⟩
  have z13 := z12.trans s13
  have hl13 := z13 _ _ hl9
  have hR13 : RwN l H13' us ds := hR9.keep (KeepX.of z13)
  have hE13 := z13 _ _ hE9
  have hq13 := hq9.same z13
  clear z11 s10 s11 ht hP10 hD11 hP11 hD ht2 ht3 s12 s13 z12 hE9 hq9 hl9 hR9 hV9 z13
  -- all due methods
  refine ⟨_, rfl, _, rfl, l, D9, us, ys, ds, missP ds, rfl, hl13, hR13, ok, h12, hE13, hq13, Adds.miss h12, fun hmo D vs H14 s14 hDn hD hV => ?_, fun hno H14 s14 => ?_⟩
  · have okM := moreD_ok ok hmo
    have lM : (moreD ds (missP ds)).length = ds.length := moreD_len
    refine ⟨_, rfl, rfl, _, rfl, iteT' rfl ?_⟩
    refine ⟨_, rfl, fun w3 w3d hw3 hw3d w3n => world_q hD hV okM (by omega) (by omega) hw3 hw3d w3n fun H15 s15 hW15' => ⟨rfl, ?_⟩⟩
    refine ⟨w3, _, rfl, hW15', okM, by omega, fun t3 us3 H16 s16 ht3 hP16 => ⟨(by show 0 ≤ sizeLine; decide), fun E2 hE2 => ?_⟩⟩
    have fn := full_nil ok hmo
    have tn := (miss_two okM).mp fn
    have sE2 := same_new (o := .tup []) hE2
    refine ⟨.tuple ((twoUp (moreD ds (missP ds)) (moreD ds (missP ds)).length).map dPair), .tuple [], .tup (SqT.of (sE2 _ _ ht3)) (dp_pairs (hP16.same sE2)), .tup (SqT.of (xs := []) upd_same) .nil, (lay_pairsT _).shaped (by decide), rfl, _, rfl, ?_⟩
    rw [eqv_pairsT_nil, tn]
    refine iteF' rfl ?_
    have z17 := s15.trans (s16.trans sE2)
    generalize upd H16 E2 (.tup []) = H17 at sE2 z17 ⊢
    refine ⟨_, rfl, fun w4 w4d hw4 hw4d w4n => world_q (z17 _ _ hD) (hV.keep (KeepX.of z17)) okM (by omega) (by omega) hw4 hw4d w4n fun H18 s18 hW18 => ⟨rfl, ?_⟩⟩
    refine ⟨w4, _, rfl, hW18, okM, by omega, fun t4 us4 H19 s19 ht4 hP19 => ⟨(by show 0 ≤ sizeLine; decide), fun E3 hE3 => ?_⟩⟩
    have sE3 := same_new (o := .tup []) hE3
    refine ⟨.tuple ((missP (moreD ds (missP ds))).map dPair), .tuple [], .tup (SqT.of (sE3 _ _ ht4)) (dp_pairs (hP19.same sE3)), .tup (SqT.of (xs := []) upd_same) .nil, (lay_pairsT _).shaped (by decide), rfl, _, rfl, ?_⟩
    rw [eqv_pairsT_nil, fn]
    refine iteF' rfl ?_
    have z20 := s14.trans (z17.trans (s18.trans (s19.trans sE3)))
    generalize upd H19 E3 (.tup []) = H20 at sE3 z20 ⊢
    clear hw3 hw3d w3n hW15' hP16 ht3 hE2 sE2 hw4 hw4d w4n hW18 hP19 ht4 hE3 s15 s16 s18 s19 sE3 z17 hV hD hDn
    -- all but one of them
    refine ⟨_, rfl, D9, ys, rfl, .inl (SqL.of (z20 _ _ hE13)), ys.length, rfl, by omega, by omega, for_range (n := ys.length) (fun i σ H' => Same H13' H' ∧ ∃ x15 x16 x17 x18, σ = [some (.ref a), some (.ref p), some (.ref l), some (.ref wp), some (.ref el), some (.ref Dp), some (.ref Dc), x7, some (.ref D9), x9, none, some (.ref w2), some (.ref t), none, some (.ref D), x15, x16, x17, x18]) ⟨z20, none, none, none, none, rfl⟩ ?_ ?_⟩
    · rintro i σ H21 hi ⟨s21, x15, x16, x17, x18, rfl⟩
      have ei : (0 : Int) + (i : Int) = (i : Int) := by omega
      rw [ei]
      have hE21 := s21 _ _ hE13
      obtain ⟨pr, hpr⟩ : ∃ pr, (missP ds)[i]? = some pr := ⟨_, List.getElem?_eq_getElem (by omega)⟩
      have hyi : ∃ v, ys[i]? = some v := ⟨_, List.getElem?_eq_getElem hi⟩
      obtain ⟨v, hv⟩ := hyi
      obtain ⟨pr', tv, hpr', rfl, htv⟩ := hq13.at hv
      obtain rfl : pr' = pr := Option.some.inj (hpr'.symm.trans hpr)
      refine ⟨_, rfl, _, rfl, _, rfl, D9, ys, rfl, SqL.of hE21, fun S1 hS1 => ?_⟩
      rw [cut_head ys i (by omega)]
      have sS1 := same_new (o := .lst (ys.take i)) hS1
      have hS1' : upd H21 S1 (.lst (ys.take i)) S1 = some (.lst (ys.take i)) := upd_same
      obtain ⟨c1, c2⟩ := cut_tail ys i hi
      refine ⟨_, rfl, _, rfl, _, _, rfl, rfl, _, rfl, D9, ys, rfl, SqL.of (sS1 _ _ hE21), fun S2 hS2 => ?_⟩
      rw [c2]
      have sS2 := same_new (o := .lst (ys.drop (i + 1))) hS2
      refine ⟨S1, S2, _, _, rfl, rfl, sS2 _ _ hS1', upd_same, (by rw [List.length_take, List.length_drop]; show _ ≤ 2 ^ 24; omega), fun N hN => ?_⟩
      have sN := same_new (o := .lst (ys.take i ++ ys.drop (i + 1))) hN
      have hNN : upd (upd (upd H21 S1 (.lst (ys.take i))) S2 (.lst (ys.drop (i + 1)))) N (.lst (ys.take i ++ ys.drop (i + 1))) N = some (.lst (ys.take i ++ ys.drop (i + 1))) := upd_same
      have z22 := s21.trans (sS1.trans (sS2.trans sN))
      generalize upd (upd (upd H21 S1 (.lst (ys.take i))) S2 (.lst (ys.drop (i + 1)))) N (.lst (ys.take i ++ ys.drop (i + 1))) = H22 at hNN z22 ⊢
      clear sS1 hS1 hS1' c1 c2 hS2 sS2 hN sN
      have hq22 := hq13.same z22
      have hPN : PairsAt H22 (ys.take i ++ ys.drop (i + 1)) ((missP ds).take i ++ (missP ds).drop (i + 1)) := (hq22.take i).app (hq22.drop (i + 1))
      have sp := split_at hpr
      have ad : Adds ds ((missP ds).take i ++ pr' :: (missP ds).drop (i + 1)) := by rw [← sp]; exact Adds.miss h12
      have mo2 : MoreOk ds ((missP ds).take i ++ pr' :: (missP ds).drop (i + 1)) := by rw [← sp]; exact hmo
      have one := less_one ok sp
      generalize hps : (missP ds).take i ++ (missP ds).drop (i + 1) = ps at hPN one
      have ad2 : Adds ds ps := by rw [← hps]; exact ad.less
      have mo3 : MoreOk ds ps := by rw [← hps]; exact more_less mo2
      have okL := moreD_ok ok mo3
      have lL : (moreD ds ps).length = ds.length := moreD_len
      refine ⟨_, rfl, _, rfl, l, N, us, _, ds, ps, rfl, z22 _ _ hl13, hR13.keep (KeepX.of z22), ok, h12, hNN, hPN, ad2, fun _ D2 vs2 H23 s23 hD2n hD2 hV2 => ?_, fun hno => absurd mo3 hno⟩
      refine fun w5 w5d hw5 hw5d w5n => world_q hD2 hV2 okL (by omega) (by omega) hw5 hw5d w5n fun H24 s24 hW24 => ⟨rfl, ?_⟩
      refine ⟨_, rfl, w5, _, rfl, hW24, okL, by omega, fun t5 us5 H25 s25 ht5 hP25 => ?_⟩
      refine ⟨_, rfl, w5, _, rfl, hW24.mono s25, okL, by omega, fun t6 us6 H26 s26 ht6 hP26 => ⟨(by show 0 ≤ sizeLine; decide), fun E4 hE4 => ?_⟩⟩
      have sE4 := same_new (o := .tup []) hE4
      have ne : (twoUp (moreD ds ps) (moreD ds ps).length).isEmpty = false := by
        cases q : twoUp (moreD ds ps) (moreD ds ps).length with
        | nil =>
          rw [(miss_two okL).mpr q] at one
          cases one
        | cons x r => rfl
      refine ⟨.tuple ((twoUp (moreD ds ps) (moreD ds ps).length).map dPair), .tuple [], .tup (SqT.of (sE4 _ _ ht6)) (dp_pairs (hP26.same sE4)), .tup (SqT.of (xs := []) upd_same) .nil, (lay_pairsT _).shaped (by decide), rfl, _, rfl, ?_⟩
      rw [eqv_pairsT_nil, ne]
      refine iteF' rfl ?_
      have y27 := s26.trans sE4
      have z27 := z22.trans (s23.trans (s24.trans (s25.trans y27)))
      rw [one] at hP25
      have p1 := p16 pr' (List.mem_of_getElem? hpr)
      refine ⟨_, rfl, _, _, 2, 11, rfl, .tup (SqT.of (y27 _ _ ht5)) (dp_pairs (hP25.same y27)), sm_pairs (n := 1) (fun x hx => by rw [List.mem_singleton.mp hx]; exact p1) (Nat.le_refl _), by decide, by decide, ?_⟩
      refine ⟨_, rfl, _, rfl, D9, ys, (i : Int), _, rfl, rfl, SqL.of (z27 _ _ hE13), atI_nat hv, (by show 1 ≤ sizeLine; decide), fun T hT => ?_⟩
      have sT := same_new (o := .tup [.ref tv]) hT
      refine ⟨_, .tuple ([pr'].map dPair), 2, 11, rfl, .tup (SqT.of upd_same) (.cons (.tup (SqT.of ((z27.trans sT) _ _ htv)) (.cons (.int _) (.cons (.int _) .nil))) .nil), sm_pairs (n := 1) (fun x hx => by rw [List.mem_singleton.mp hx]; exact p1) (Nat.le_refl _), by decide, by decide, rfl, _, rfl, iteF' ne_self ?_⟩
      exact ⟨z27.trans sT, _, _, _, _, rfl⟩
    · rintro σ H21 ⟨s21, x15, x16, x17, x18, rfl⟩
      exact rfl
  · exact ⟨_, rfl, rfl, _, rfl, iteF' rfl rfl⟩
end
end K59

set_option maxRecDepth 100000
set_option maxHeartbeats 4000000
namespace Kx
open PySem PySem.Spec PyProof.Rows L2

/-- a held exception's class, as far as reading its fields and asking its class goes -/
structure HeldC (K : PySem.W.Frag) (C : Addr) : Prop where
  fld : XfC K C
  icl : (PySem.W.clsIn K C).isSome = true
  cla : PySem.W.findIn K (.ref C) "__class__" = some (some (.builtin "object.__class__"))
  obj : PySem.W.mroIn K C (.type "object") = some true

/-- an exception stands at a, with the fields fs (none: it has no dict as yet) -/
def Held (H : Hp) (a C : Addr) (fs : List (Str × V)) : Prop :=
  (H a = some (exo a C none) ∧ fs = []) ∨ ∃ dx, H a = some (exo a C (some dx)) ∧ H dx = some (exd dx fs)

section
variable {X : Cx} {pins : List (Addr × Obj)} {σ : L2.St} {H : Hp} {s : Shared} {a C dx : Addr} {f : Str} {fs : List (Str × V)}

theorem held_at (I : Inv X pins σ H s) (h : Held H a C fs) : ∃ ox od, PySem.W.InstAt s.heap a ox C od := by
  rcases h with ⟨ha, _⟩ | ⟨dx, ha, hd⟩
  · obtain ⟨t, ho⟩ := exo_at I.hok ha
    exact ⟨_, none, ⟨ho, rfl, rfl, trivial⟩⟩
  · obtain ⟨t, ho⟩ := exo_at I.hok ha
    obtain ⟨mA, hn, _⟩ := exd_at I.hok hd
    obtain ⟨od, e, _⟩ := lookIn_ns hn
    exact ⟨_, some od, ⟨ho, rfl, rfl, e⟩⟩

/-- e.f of a held exception -/
def tHf (K : PySem.W.Frag) (f : Str) (te : TE) : TE := fun σ H Q => te σ H fun x H1 => ∃ (a C dx : Addr) (fs : List (Str × V)) (v : V),
  x = .ref a ∧ XfC K C ∧ PySem.W.findIn K (.ref C) f = some none ∧ H1 a = some (exo a C (some dx)) ∧ H1 dx = some (exd dx fs) ∧ fs.lookup f = some v ∧ Q v H1
theorem pe_hf {e : Expr} {te : TE} {pos : Pos} (he : PE X e te) (hb : attributeBase e f X.env (eval e X.env) = eval e X.env := by rfl) : PE X (.Attribute e f pos) (tHf X.K f te) := by
  refine ⟨fun pins s σ H Q I h => attr_of hb (thn (he.run pins s σ H _ I h) fun u s1 hh => ?_)⟩
  obtain ⟨x, H1, I1, rx, a, C, dx, fs, v, ex, T, hno, ha, hd, hl, q⟩ := hh
  subst ex
  obtain rfl : u = Value.ref a := rx
  obtain ⟨t, ho⟩ := exo_at I1.hok ha
  obtain ⟨mA, hn, rel⟩ := exd_at I1.hok hd
  obtain ⟨od, eo, look⟩ := lookIn_ns hn
  have rv : RelO (some v) (mA f) := hl ▸ rel f
  obtain ⟨z, ez, rz⟩ := RelO.some_of rv
  have J : PySem.W.InstAt s1.heap a _ C (some od) := ⟨ho, rfl, rfl, eo⟩
  have fo := PySem.W.findObj_own (od := od) (v := z) T.hdC hno rfl (by rw [look, ez])
  exact HandSPX.exc_get I1.kIn J T.ga T.gg T.exC fo (handed_of rz) ⟨v, H1, I1.tok _, rz, q⟩

/-- isinstance(e, D), e a held exception -/
def rHis (K : PySem.W.Frag) : List V → Hp → VK → Prop := fun xs H Q => ∃ (a C : Addr) (fs : List (Str × V)) (c : V) (t : Value) (b : Bool),
  xs = [.ref a, c] ∧ Held H a C fs ∧ HeldC K C ∧ PySem.W.specialIn K (.builtin "object.__class__") "__get__" = some (some (.builtin "getset_descriptor.__get__")) ∧ PySem.W.takesIn K (.builtin "object.__class__") = some true ∧ (∀ u, RelV c u → u = t) ∧ PySem.W.kitOne K (.ref C) t = some b ∧ Q (.bl b) H
theorem call_his : CallR X (.builtin "isinstance") (rHis X.K) := by
  intro pins s σ H xs us Q I r h
  obtain ⟨a, C, fs, c, t, b, ex, hh, T, sp, tk, ct, e, q⟩ := h
  subst ex
  obtain ⟨u1, u2, eu, r1, r2⟩ := vals2 r
  subst eu
  obtain rfl : u1 = Value.ref a := r1
  rw [ct u2 r2]
  obtain ⟨ox, od, J⟩ := held_at I hh
  exact PySem.W.kia_one (PySem.W.kitx_exc T.icl T.fld.ga T.fld.gg T.fld.exC T.cla sp tk T.obj) I.kIn J e (fun z => nomatch z) fun k => ⟨.bl b, H, I.tok k, rfl, q⟩
end

section
variable {X : Cx} {C fI : Addr} {k : Nat} {fd : FuncData} {ps : List Str} {sp : Sp} {x : Str} {e : Expr} {es : List Expr} {ta : TA} {p pos : Pos} {CX : CXT}
/-- the class at C called with values: a new exception, kept, its own __init__ run -/
theorem hold_call {pins : List (Addr × Obj)} {σ : L2.St} {H : Hp} {s : Shared} {Q : VK} {us : List Value} {vs : List V} (T : OexC X.K C) (iC : PySem.W.findIn X.K (.ref C) "__init__" = some (some (.ref fI))) (tI : PySem.W.typeIn X.K (.ref fI) = some (.type "function"))
    (F1 : FnOk X.prog X.w X.K X.mg X.base CX k fI fd ps sp) (hr : Room (k + 1) X.A) (hb : Binds X.K fd ps []) (hx : Passes CX X E0) (I : Inv X pins σ H s) (r : Vals vs us) (hz : vs.length ≤ 1000)
    (q : ∀ a, H a = none → sp (.ref a :: vs) (upd H a (exo a C none)) (fun v H2 => v = .non ∧ Q (.ref a) H2) E0) :
    wpAny (model X.prog X.w) X.A (call (.ref C) us) (EP X pins σ Q) X.xe s := by
  obtain ⟨nm, qn, N, bs, bm, sn, sub, ab, col, dd, k0, k1, k2, k3, k5, hC, hbm⟩ := T.cls
  obtain ⟨hp, g, dr, tk, os⟩ := s
  generalize ea : hp.objs.size + 1 = a
  have hsz : hp.objs.size ≤ a := by omega
  have hn : H a = none := I.hok.fresh hsz
  have hq := q a hn
  have kk : ∀ b o, hp.get? b = some o → ((hp.push (PySem.W.kdv_tup us)).push (PySem.HandSPX.excO C hp.objs.size)).get? b = some o :=
    fun b o z => Heap.get?_push_of_some _ (Heap.get?_push_of_some _ z)
  have hget : ((hp.push (PySem.W.kdv_tup us)).push (PySem.HandSPX.excO C hp.objs.size)).get? a = some (PySem.HandSPX.excO C hp.objs.size) := by
    rw [← ea]
    heap_get
  have I2 : Inv X pins σ (upd H a (exo a C none)) ⟨(hp.push (PySem.W.kdv_tup us)).push (PySem.HandSPX.excO C hp.objs.size), g, dr, tk, os⟩ :=
    I.laid (t' := tk) kk hsz (exo_ok hget)
  have r2 : Vals (V.ref a :: vs) (Value.ref a :: us) := .cons rfl r
  have hl : (Value.ref a :: us).length = ps.length := r2.length.symm.trans (F1.len _ _ _ _ hq)
  have hus : us.length ≤ sizeLine := by
    rw [← Paired.length r, sizeLine_eq]
    omega
  have bd : BindsTo ⟨(hp.push (PySem.W.kdv_tup us)).push (PySem.HandSPX.excO C hp.objs.size), g, dr, tk, os⟩ fd ⟨Value.ref a :: us, []⟩ (ps.zip (Value.ref a :: us)) := by
    have z := hb ⟨(hp.push (PySem.W.kdv_tup us)).push (PySem.HandSPX.excO C hp.objs.size), g, dr, tk, os⟩ (Value.ref a :: us) I2.kIn (by rw [List.append_nil]; exact hl)
    rw [List.append_nil] at z
    exact z
  have go := F1.run _ X.stack _ _ ⟨Value.ref a :: us, []⟩ (Value.ref a :: us) _ _ E0 (hr.make C us []) (I2.env0.make C us []) bd r2 hq
  refine wpAny_call (PySem.HandSPX.call_own F.excBase_ValueError (fun Y => PySem.HandSPX.refsVE_contains Y bm hbm) (I.kIn _ _ hC) (PySem.W.looks_findIn I.kIn iC) (fun self => PySem.W.bind_fn I.kIn self tI) hus ?_)
  rw [ea]
  refine codeAny_mono go fun r s' hq' => ?_
  cases r with
  | error er => exact hx pins σ _ _ er s' I2 hq'
  | ok fl =>
    cases fl with
    | ret u =>
      obtain ⟨v, H2, J, rv, ev, q2⟩ := I2.after (show CE _ _ _ _ _ _ u s' from hq')
      subst ev
      exact ⟨rv, .ref a, H2, J, rfl, q2⟩
    | next => exact False.elim hq'
    | brk => exact False.elim hq'
    | cont => exact False.elim hq'

/-- C(e, ..) kept as a value -/
def tHold (C : Addr) (sp : Sp) (ta : TA) : TE := fun σ H Q => ta σ H fun vs H1 => vs.length ≤ 1000 ∧ ∀ a, H1 a = none → sp (.ref a :: vs) (upd H1 a (exo a C none)) (fun v H2 => v = .non ∧ Q (.ref a) H2) E0
theorem pe_hold (T : OexC X.K C) (iC : PySem.W.findIn X.K (.ref C) "__init__" = some (some (.ref fI))) (tI : PySem.W.typeIn X.K (.ref fI) = some (.type "function"))
    (F1 : FnOk X.prog X.w X.K X.mg X.base CX k fI fd ps sp) (hr : Room (k + 1) X.A) (hb : Binds X.K fd ps []) (hx : Passes CX X E0) (hg : Gl X x) (hm : X.mg x = some (.ref C)) (ha : PA X (e :: es) ta)
    (hdb : (x == ("__debug__" : Str)) = false := by decide) (he : starEach (e :: es) X.env = (false, eval e X.env) :: starEach es X.env := by rfl) (hpl : (backTo pos (starEach es X.env)).any (·.1) = false := by rfl) :
    PE X (.Call (.Name x p) (e :: es) [] pos) (tHold C sp ta) := by
  refine ⟨fun pins s σ H Q I h => wpAny_Call_Name_kw (ld_glob I hg hm ?_ hdb)⟩
  refine PySem.W.callWith_K (h₀ := X.base) I.ok.mod.kin T.kC (thn (ha.run pos pins s σ H _ I h) fun us s1 ⟨vs, H1, I1, r1, hz, q1⟩ => ?_) he hpl
  exact ⟨I1.kIn, hold_call T iC tI F1 hr hb hx I1 r1 hz q1⟩
/-- C() -/
theorem pe_hold0 (T : OexC X.K C) (iC : PySem.W.findIn X.K (.ref C) "__init__" = some (some (.ref fI))) (tI : PySem.W.typeIn X.K (.ref fI) = some (.type "function"))
    (F1 : FnOk X.prog X.w X.K X.mg X.base CX k fI fd ps sp) (hr : Room (k + 1) X.A) (hb : Binds X.K fd ps []) (hx : Passes CX X E0) (hg : Gl X x) (hm : X.mg x = some (.ref C))
    (hdb : (x == ("__debug__" : Str)) = false := by decide) :
    PE X (.Call (.Name x p) [] [] pos) (tHold C sp tNil) := by
  refine ⟨fun pins s σ H Q I h => wpAny_Call_Name_kw (ld_glob I hg hm ?_ hdb)⟩
  obtain ⟨hz, q1⟩ := h
  exact PySem.W.callWith_K0 I.kIn T.kC (hold_call T iC tI F1 hr hb hx I (us := []) .nil hz q1)
end
end Kx

set_option maxRecDepth 100000
set_option maxHeartbeats 4000000
namespace Kx
open PySem PySem.Spec PyProof.Rows L2 He

/-- the class at C, by its object alone: over ValueError, its own chain, a dict for its instances -/
def shapeB (K : PySem.W.Frag) (C Kin : Addr) : Bool :=
  match K.lookup C with
  | some ⟨c, _, .cls cd, sl⟩ =>
    (match cd.mro, sl.toList with
      | a :: bm, [_, _, _, _, some (.builtin n), _] => (c == .type "type") && ((a == .ref C) && ((n == "ValueError.__new__") && (cd.hasDict && ((!cd.hasDel) && (bm == .ref Kin :: veBase)))))
      | _, _ => false)
  | _ => false

theorem shapeB_ok {K : PySem.W.Frag} {C Kin : Addr} (h : shapeB K C Kin = true) :
    ∃ nm q N bs sn sub ab col dd k0 k1 k2 k3 k5, K.lookup C = some (excClassObj nm q C N bs (.ref Kin :: veBase) true sn sub ab col dd k0 k1 k2 k3 k5 "ValueError.__new__") := by
  unfold shapeB at h
  split at h
  · rename_i c dd cd sl ho
    split at h
    · rename_i a bm k0 k1 k2 k3 n k5 hm hs
      simp only [Bool.and_eq_true, beq_iff_eq, Bool.not_eq_true'] at h
      obtain ⟨rfl, rfl, rfl, hd, hdel, rfl⟩ := h
      obtain ⟨nm, bs, mro, ns, qn, hdct, sn, sub, ab, col, del⟩ := cd
      dsimp only at hm hdel hd
      subst hm hdel hd
      obtain ⟨l⟩ := sl
      have e : l = [k0, k1, k2, k3, some (.builtin "ValueError.__new__"), k5] := hs
      subst e
      exact ⟨_, _, _, _, _, _, _, _, _, _, _, _, _, _, ho⟩
    · cases h
  · cases h

/-- one error class of the text: its name, the parameters of its own __init__ -/
structure ErrD where
  name : Str
  ps : List Str

/-- all that is asked of such a class -/
def ErrD.ok (K : PySem.W.Frag) (Kin : Addr) (d : ErrD) : Bool :=
  shapeB K (ga K d.name) Kin && (xfB K (ga K d.name)
    && (eqO (PySem.W.findIn K (.ref (ga K d.name)) "__setattr__") (some (some (.builtin "object.__setattr__")))
    && (decide (PySem.W.typeIn K (.ref (ga K d.name)) = some (.type "type"))
    && (PySem.W.keepIn K (.ref (ga K d.name))
    && (eqO (PySem.W.findIn K (.ref (ga K d.name)) "__class__") (some (some (.builtin "object.__class__")))
    && (eqO (PySem.W.findIn K (.ref (ga K d.name)) "__init__") (some (some (.ref (ma K (ga K d.name) "__init__"))))
    && (decide (PySem.W.typeIn K (.ref (ma K (ga K d.name) "__init__")) = some (.type "function"))
    && d.ps.all fun p => eqO (PySem.W.findIn K (.ref (ga K d.name)) p) (some none))))))))

/-- the same, said -/
structure ErrOk (K : PySem.W.Frag) (Kin : Addr) (d : ErrD) : Prop where
  oex : OexC K (ga K d.name)
  held : HeldC K (ga K d.name)
  ini : PySem.W.findIn K (.ref (ga K d.name)) "__init__" = some (some (.ref (ma K (ga K d.name) "__init__")))
  inT : PySem.W.typeIn K (.ref (ma K (ga K d.name) "__init__")) = some (.type "function")
  no : ∀ p ∈ d.ps, PySem.W.findIn K (.ref (ga K d.name)) p = some none
  mro : ∃ cd, PySem.W.clsIn K (ga K d.name) = some cd ∧ cd.mro = .ref (ga K d.name) :: .ref Kin :: veBase

theorem refsVE_kin {Kin : Addr} : PySem.HandSPX.refsVE (.ref Kin :: veBase) = true := by
  show PySem.HandSPX.refsVE veBase = true
  decide +kernel
theorem ErrD.ok_ok {K : PySem.W.Frag} {Kin : Addr} {d : ErrD} (h : d.ok K Kin = true) : ErrOk K Kin d := by
  obtain ⟨h1, h⟩ := ba h
  obtain ⟨h2, h⟩ := ba h
  obtain ⟨h3, h⟩ := ba h
  obtain ⟨h4, h⟩ := ba h
  obtain ⟨h5, h⟩ := ba h
  obtain ⟨h6, h⟩ := ba h
  obtain ⟨h7, h⟩ := ba h
  obtain ⟨h8, h9⟩ := ba h
  obtain ⟨nm, q, N, bs, sn, sub, ab, col, dd, k0, k1, k2, k3, k5, hC⟩ := shapeB_ok h1
  have hcl : PySem.W.clsIn K (ga K d.name) = some { name := nm, bases := bs, mro := .ref (ga K d.name) :: .ref Kin :: veBase, ns := N, qualname := q, hasDict := true, slotNames := sn, subclasses := sub, abstract := ab, collection := col, hasDel := false } := by
    unfold PySem.W.clsIn
    rw [hC]
    all_goals rfl
  have X := xfB_ok h2
  refine ⟨⟨⟨nm, q, N, bs, _, sn, sub, ab, col, dd, k0, k1, k2, k3, k5, hC, refsVE_kin⟩, eqO_ok h3, X.exC, of_decide_eq_true h4, h5⟩, ⟨X, by rw [hcl]; rfl, eqO_ok h6, ?_⟩, eqO_ok h7, of_decide_eq_true h8, fun p hp => eqO_ok (List.all_eq_true.mp h9 p hp), ⟨_, hcl, rfl⟩⟩
  unfold PySem.W.mroIn
  rw [hcl]
  show (if ((Value.ref (ga K d.name) :: .ref Kin :: veBase).isEmpty) = true then none else some ((Value.ref (ga K d.name) :: .ref Kin :: veBase).contains (.type "object"))) = some true
  rw [if_neg (by exact Bool.false_ne_true)]
  have e : (Value.ref (ga K d.name) :: .ref Kin :: veBase).contains (.type "object") = veBase.contains (.type "object") := rfl
  rw [e]
  exact congrArg some (by decide +kernel)

/-- isinstance of one of them against another -/
theorem kit_err {K : PySem.W.Frag} {Kin C D : Addr} {cd cd' : ClassData} (hC : PySem.W.clsIn K C = some cd) (mC : cd.mro = .ref C :: .ref Kin :: veBase) (hD : PySem.W.clsIn K D = some cd') (tD : PySem.W.typeIn K (.ref D) = some (.type "type")) :
    PySem.W.kitOne K (.ref C) (.ref D) = some (decide (C = D) || decide (Kin = D)) := by
  unfold PySem.W.kitOne
  by_cases e : C = D
  · subst e
    have e1 : ((Value.ref C) == (Value.ref C)) = true := beq_iff_eq.mpr rfl
    rw [if_pos e1]
    simp
  · have e1 : ¬ ((Value.ref C) == (Value.ref D)) = true := fun z => e (Value.ref.inj (beq_iff_eq.mp z))
    rw [if_neg e1]
    show (if ((PySem.W.clsIn K D).isSome && PySem.W.typeIn K (.ref D) == some (.type "type")) = true then PySem.W.subIn K (.ref C) (.ref D) else none) = _
    have e2 : ((PySem.W.clsIn K D).isSome && PySem.W.typeIn K (.ref D) == some (.type "type")) = true := by
      rw [hD, tD] <;> rfl
    rw [if_pos e2]
    show PySem.W.mroIn K C (.ref D) = _
    unfold PySem.W.mroIn
    rw [hC]
    show (if cd.mro.isEmpty = true then none else some (cd.mro.contains (.ref D))) = _
    rw [mC]
    show (if (List.isEmpty (Value.ref C :: .ref Kin :: veBase)) = true then none else some ((Value.ref C :: .ref Kin :: veBase).contains (.ref D))) = _
    rw [if_neg (by exact Bool.false_ne_true)]
    have tail : veBase.contains (Value.ref D) = false := by
      show ([Value.type "ValueError", .type "Exception", .type "BaseException", .type "object"] : List Value).contains (Value.ref D) = false
      rfl
    have d1 : decide (C = D) = false := decide_eq_false e
    rw [d1, Bool.false_or, List.contains_cons, List.contains_cons, tail, Bool.or_false]
    have b1 : (Value.ref D == Value.ref C) = false := beq_eq_false_iff_ne.mpr fun z => e (Value.ref.inj z).symm
    rw [b1, Bool.false_or]
    congr 1
    by_cases k : Kin = D
    · subst k
      rw [decide_eq_true rfl]
      exact beq_iff_eq.mpr rfl
    · rw [decide_eq_false k]
      exact beq_eq_false_iff_ne.mpr fun z => k (Value.ref.inj z).symm
/-- and against ValueError -/
theorem kit_val {K : PySem.W.Frag} {Kin C : Addr} {cd : ClassData} (hC : PySem.W.clsIn K C = some cd) (mC : cd.mro = .ref C :: .ref Kin :: veBase) : PySem.W.kitOne K (.ref C) (.type "ValueError") = some true := by
  unfold PySem.W.kitOne
  have e1 : ¬ ((Value.ref C) == (Value.type "ValueError")) = true := fun z => by
    have q := beq_iff_eq.mp z
    cases q
  rw [if_neg e1]
  show (if PySem.W.kitMeta "ValueError" = true then PySem.W.subIn K (.ref C) (.type "ValueError") else none) = _
  rw [if_pos (by decide +kernel)]
  show PySem.W.mroIn K C (.type "ValueError") = _
  unfold PySem.W.mroIn
  rw [hC]
  show (if cd.mro.isEmpty = true then none else some (cd.mro.contains (.type "ValueError"))) = _
  rw [mC]
  show (if (List.isEmpty (Value.ref C :: .ref Kin :: veBase)) = true then none else some ((Value.ref C :: .ref Kin :: veBase).contains (.type "ValueError"))) = _
  rw [if_neg (by exact Bool.false_ne_true)]
  have e : (Value.ref C :: .ref Kin :: veBase).contains (.type "ValueError") = veBase.contains (.type "ValueError") := rfl
  rw [e]
  exact congrArg some (by decide +kernel)

/-! ### the head's look: facts, defs, and one Bool more -/
abbrev AlK : Type := AlD × Bool
def obsK (fa : List Fa) (fn : List DefD) (ex : PySem.W.Frag → Bool) (K : PySem.W.Frag) : AlK := (obsD fa fn K, ex K)
/-- what an object leads on to: a def's code, a class's own names, a dict's values -/
def refK (o : Obj) : List Addr :=
  match o.data with
  | .func fd => refV fd.code ++ refV fd.defaults
  | .cls cd => [cd.ns]
  | .dict es _ => es.toList.flatMap fun e => refV e.val
  | _ => []
def stepK (g : Addr → Option Obj) (as : List Addr) : List Addr := as.flatMap fun a =>
  match g a with
  | some o => refK o
  | none => []
/-- the module's names, what they stand for, the classes' names, the methods, their codes: level by level -/
def lvK (g : Addr → Option Obj) : Nat → List Addr → List Addr
  | 0, as => as
  | n + 1, as => as ++ lvK g n (stepK g as)
def frK (g : Addr → Option Obj) : PySem.W.Frag := frG g (lvK g 4 [mainGlobals])
def obsKG (fa : List Fa) (fn : List DefD) (ex : PySem.W.Frag → Bool) (g : Addr → Option Obj) : AlK := obsK fa fn ex (frK g)
structure SaysK (fa : List Fa) (fn : List DefD) (ex : PySem.W.Frag → Bool) (K : PySem.W.Frag) : Prop where
  d : SaysD fa fn K
  x : ex K = true
def hookK (fa : List Fa) (fn : List DefD) (ex : PySem.W.Frag → Bool) : PySem.W.Hook where
  α := AlK
  obs s := obsKG fa fn ex s.heap.get?
  val _ := (valD fn, true)
  says _ h := ∃ K : PySem.W.Frag, K.In h ∧ SaysK fa fn ex K
  of := fun _ _ e => ⟨_, frG_in, ⟨congrArg (fun z : AlK => z.1) e, congrArg (fun z : AlK => z.2) e⟩⟩
  keeps := fun _ _ _ ⟨K, hK, c⟩ k => ⟨K, hK.keeps k, c⟩
theorem obsKG_eq {fa : List Fa} {fn : List DefD} {ex : PySem.W.Frag → Bool} {g : Addr → Option Obj} {s : Shared} (h : ∀ a, g a = s.heap.get? a) : obsKG fa fn ex g = (hookK fa fn ex).obs s := by
  have e : g = s.heap.get? := funext h
  subst e
  rfl
end Kx

set_option maxRecDepth 100000
set_option maxHeartbeats 4000000
namespace Kx
open PySem PySem.Spec PyProof.Rows L2 He
/-! ### the head's look, with the empty tables of some defs' code objects -/
def tabsY (g : Addr → Option Obj) (tf : List Defn) (K : PySem.W.Frag) : Bool := tf.all fun p => PySem.W.codeHdIn K (cT K p).1 (cT K p).2 && ((K.lookup (cT K p).2).isNone && (match g (cT K p).2 with
  | some o => emptyTab o
  | none => false))
def obsY (fa : List Fa) (fn : List DefD) (tf : List Defn) (ex : PySem.W.Frag → Bool) (g : Addr → Option Obj) : AlK := (obsD fa fn (frK g), ex (frK g) && tabsY g tf (frK g))
structure SaysY (fa : List Fa) (fn : List DefD) (tf : List Defn) (ex : PySem.W.Frag → Bool) (h : Heap) (K : PySem.W.Frag) : Prop where
  k : SaysK fa fn ex K
  hd : ∀ p ∈ tf, PySem.W.codeHdIn K (cT K p).1 (cT K p).2 = true
  out : ∀ p ∈ tf, K.lookup (cT K p).2 = none
  empty : ∀ p ∈ tf, h.get? (cT K p).2 = some { cls := .none, data := .fields #[] }
def hookY (fa : List Fa) (fn : List DefD) (tf : List Defn) (ex : PySem.W.Frag → Bool) : PySem.W.Hook where
  α := AlK
  obs s := obsY fa fn tf ex s.heap.get?
  val _ := (valD fn, true)
  says _ h := ∃ K : PySem.W.Frag, K.In h ∧ SaysY fa fn tf ex h K
  of := fun _ s e => by
    have e1 : obsD fa fn (frK s.heap.get?) = valD fn := congrArg (fun z : AlK => z.1) e
    have e2 : (ex (frK s.heap.get?) && tabsY s.heap.get? tf (frK s.heap.get?)) = true := congrArg (fun z : AlK => z.2) e
    obtain ⟨h1, h2⟩ := ba e2
    have key : ∀ p ∈ tf, _ := fun p hp => List.all_eq_true.mp h2 p hp
    refine ⟨_, frG_in, ⟨⟨e1, h1⟩, fun p hp => (ba (key p hp)).1, fun p hp => ?_, fun p hp => ?_⟩⟩
    · exact Option.isNone_iff_eq_none.mp (ba (ba (key p hp)).2).1
    · have h3 := (ba (ba (key p hp)).2).2
      cases q : s.heap.get? (cT (frK s.heap.get?) p).2 with
      | none =>
        rw [q] at h3
        cases h3
      | some o =>
        rw [q] at h3
        exact q.trans (congrArg some (emptyTab_eq h3))
  keeps := fun _ _ _ ⟨K, hK, c⟩ k => ⟨K, hK.keeps k, ⟨c.k, c.hd, c.out, fun p hp => k _ _ (c.empty p hp)⟩⟩
theorem obsY_eq {fa : List Fa} {fn : List DefD} {tf : List Defn} {ex : PySem.W.Frag → Bool} {g : Addr → Option Obj} {s : Shared} (h : ∀ a, g a = s.heap.get? a) : obsY fa fn tf ex g = (hookY fa fn tf ex).obs s := by
  have e : g = s.heap.get? := funext h
  subst e
  rfl
end Kx

set_option maxRecDepth 100000
set_option maxHeartbeats 0
namespace K59
open PySem PySem.Spec PyProof.Rows L2 He Kx
def errs : List ErrD := [⟨"BadWorld", ["index", "what"]⟩, ⟨"NoClass", ["cls"]⟩, ⟨"BadLot", ["index"]⟩, ⟨"BadName", ["name"]⟩]
def dM (i j : Nat) (x m qn : Str) : DefD := ⟨(x, some m), m, qn, defArgs (inClass (top i) j), defBody (inClass (top i) j), defScope (inClass (top i) j), [], []⟩
def dF (i : Nat) (x : Str) (dv : List Dv) : DefD := ⟨(x, none), x, x, defArgs (top i), defBody (top i), defScope (top i), dv, []⟩
def fn : List DefD := [dF 8 "is_sequence" [],
  dF 9 "is_whole" [.non, .non],
  dF 10 "is_unlike_row" [],
  dF 12 "check_class" [],
  dF 19 "entry_fault" [],
  dF 20 "elder_rows" [],
  dF 21 "heir_rows" [],
  dF 23 "check_name" [],
  dF 24 "defining_of" [],
  dF 25 "answers_of" [],
  dF 26 "last_heirs" [],
  dF 27 "two_answers" [],
  dF 29 "check_lot" [],
  dF 31 "answers_among" [],
  dF 32 "least_clear" [],
  dF 33 "missing_methods" [],
  dF 35 "_law_hand" [],
  dF 36 "_law_mixed" [],
  dF 37 "_law_take" [],
  dF 38 "_law_bases" [],
  dF 39 "_law_methods" [],
  dF 40 "_law_shape" [],
  dF 41 "_law_classes" [],
  dF 42 "_law_elders" [],
  dF 43 "_law_tops" [],
  dF 44 "_law_unclear" [],
  dF 45 "_law_parts" [],
  dF 46 "_law_few" [],
  dF 47 "_law_missing" [],
  dF 48 "_law_more" [],
  dF 49 "law" [],
  dM 3 0 "BadWorld" "__init__" "BadWorld.__init__",
  dM 4 0 "NoClass" "__init__" "NoClass.__init__",
  dM 5 0 "BadLot" "__init__" "BadLot.__init__",
  dM 6 0 "BadName" "__init__" "BadName.__init__",
  dM 18 0 "World" "__init__" "World.__init__",
  dM 18 6 "World" "__len__" "World.__len__",
  dM 18 7 "World" "__iter__" "World.__iter__",
  dM 18 8 "World" "__eq__" "World.__eq__"]
def fa : List Fa := [.free "len",
  .free "int",
  .free "abs",
  .free "isinstance",
  .free "range",
  .free "set",
  .free "sorted",
  .free "enumerate",
  .free "tuple",
  .free "list",
  .free "bool",
  .free "str",
  .free "max",
  .free "min",
  .free "all",
  .free "any",
  .free "repr",
  .free "ValueError",
  .int "MOST_CLASSES" 12,
  .int "MOST_FIELDS" 3,
  .int "MOST_METHODS" 3,
  .int "METHOD_NAMES" 6,
  .glo "is_sequence",
  .glo "is_whole",
  .glo "is_unlike_row",
  .glo "check_class",
  .glo "entry_fault",
  .glo "elder_rows",
  .glo "heir_rows",
  .glo "check_name",
  .glo "defining_of",
  .glo "answers_of",
  .glo "last_heirs",
  .glo "two_answers",
  .glo "check_lot",
  .glo "answers_among",
  .glo "least_clear",
  .glo "missing_methods",
  .glo "_law_hand",
  .glo "_law_mixed",
  .glo "_law_take",
  .glo "_law_bases",
  .glo "_law_methods",
  .glo "_law_shape",
  .glo "_law_classes",
  .glo "_law_elders",
  .glo "_law_tops",
  .glo "_law_unclear",
  .glo "_law_parts",
  .glo "_law_few",
  .glo "_law_missing",
  .glo "_law_more",
  .glo "law",
  .glo "KinError",
  .glo "BadWorld",
  .exm "BadWorld" "BadWorld" true,
  .glo "NoClass",
  .exm "NoClass" "NoClass" true,
  .glo "BadLot",
  .exm "BadLot" "BadLot" true,
  .glo "BadName",
  .exm "BadName" "BadName" true,
  .glo "World",
  .cls "World",
  .mkr "World",
  .noat "World" "classes",
  .noat "World" "bases",
  .noat "World" "owns",
  .noat "World" "methods",
  .noat "World" "elders",
  .noat "World" "heirs",
  .meth "World" "__len__",
  .meth "World" "__iter__",
  .meth "World" "__eq__"]
def exA (K : PySem.W.Frag) : Bool := errs.all fun d => d.ok K (ga K "KinError")
def exC (K : PySem.W.Frag) : Bool := ((eqO (PySem.W.findIn K (.ref (ga K "World")) "__class__") (some (some (.builtin "object.__class__"))) && decide (PySem.W.mroIn K (ga K "World") (.type "object") = some true)) && (decide (PySem.W.specialIn K (.builtin "object.__class__") "__get__" = some (some (.builtin "getset_descriptor.__get__"))) && decide (PySem.W.takesIn K (.builtin "object.__class__") = some true)))
def ex (K : PySem.W.Frag) : Bool := exA K && exC K
def loose0 : List PySem.Str := ["_wall", "KinError", "BadWorld", "NoClass", "BadLot", "BadName", "is_sequence", "is_whole", "is_unlike_row", "check_class", "MOST_CLASSES", "MOST_FIELDS", "MOST_METHODS", "METHOD_NAMES", "World", "entry_fault", "elder_rows", "heir_rows", "check_name", "defining_of", "answers_of", "last_heirs", "two_answers", "check_lot"]
def loose1 : List PySem.Str := ["answers_among", "least_clear", "missing_methods", "_law_hand", "_law_mixed", "_law_take", "_law_bases", "_law_methods", "_law_shape", "_law_classes", "_law_elders", "_law_tops", "_law_unclear", "_law_parts", "_law_few", "_law_missing", "_law_more"]
def loose : List PySem.Str := loose0 ++ loose1
abbrev R : PySem.W.OpenRow := PySem.W.OpenLaw.row PySem.Challenge.rw_headamid_k59_whole_methods_that_clear_a
def tf : List Defn := [("_law_parts", none)]
abbrev hk : PySem.W.Hook := hookY fa fn tf ex
def ob (s : PySem.W.SharedT) : AlK := obsY fa fn tf ex (HandSHeadRun.getT s)
theorem ob_eq (s : PySem.W.SharedT) : ob s = hk.obs s.abs := obsY_eq (HandSHeadRun.getT_eq s)
noncomputable def endO (w : World) (os : OsState) : Option PySem.W.SharedT := HandSHeadRun.endF (HandSHeadRun.stepQ (HandSHeadRun.denQ HandSHeadRun.tabQ) R.prog w) 40000 R.prog w os
def fr (s : PySem.W.SharedT) : PySem.W.Frag := frK (HandSHeadRun.getT s)
open PySem.W PySem.Calls in
theorem run1 (w : World) (os : OsState) : (endO w os).map (fun s => (HandSHeadRun.looksF R.prog (boot_heap w.params) s.abs, HandSHeadRun.seenQ (PySem.W.view R.prog [49]) loose (importedModules R.prog.main.body) (fun s => PySem.W.xlAt (PySem.W.view R.prog [49]) [] s && PySem.W.recOk R.toRowW.records s) s.abs)) = some (true, PySem.W.openGood (PySem.W.view R.prog [49]) loose) := by
  kernel_rfl
theorem run2 (w : World) (os : OsState) : (endO w os).map (fun s => obsD fa fn (fr s)) = some (valD fn) := by
  kernel_rfl
theorem run3 (w : World) (os : OsState) : (endO w os).map (fun s => ex (fr s) && tabsY (HandSHeadRun.getT s) tf (fr s)) = some true := by
  kernel_rfl
theorem run (w : World) : HandSHeadRun.RunEq R (PySem.W.view R.prog [49]) hk ob 40000 loose w := by
  intro os
  have h1 := run1 w os
  have h2 := run2 w os
  have h3 := run3 w os
  show (endO w os).map _ = _
  cases e : endO w os with
  | none =>
    rw [e] at h1
    cases h1
  | some s =>
    rw [e] at h1 h2 h3
    obtain ⟨a1, a2⟩ := Prod.mk.inj (Option.some.inj h1)
    have b2 : obsD fa fn (fr s) = valD fn := Option.some.inj h2
    have b3 : (ex (fr s) && tabsY (HandSHeadRun.getT s) tf (fr s)) = true := Option.some.inj h3
    have b : ob s = (valD fn, true) := Prod.ext b2 b3
    exact congrArg some (Prod.ext a1 (Prod.ext a2 b))
end K59

set_option maxRecDepth 100000
set_option maxHeartbeats 16000000
namespace K59
open PySem PySem.Spec PyProof.Rows L2 He Kx Kw
theorem err_x {K : PySem.W.Frag} {mg : Str → Option Value} {Kin : Addr} {d : ErrD} (h : ErrOk K Kin d) (m : mg d.name = some (.ref (ga K d.name))) : ErrX K mg d.name d.ps (ga K d.name) (ma K (ga K d.name) "__init__") := ⟨h.oex, h.ini, h.inT, h.no, m⟩
theorem facts {P : Program} {w : World} {K : PySem.W.Frag} {h : Heap} {mg : Str → Option Value} {f : Addr} (X : K.In h) (G : h.Ns mainGlobals mg) (hfa : mg ("law" : Str) = some (.ref f)) (c : SaysK fa fn ex K) :
    ∀ (base : Heap) (H : Hp) (s : Shared) (a : Addr) (ns : List Int), K.In base → base.Ns mainGlobals mg → LamX.TabB base mg (cT K ("_law_parts", none)).1 (cT K ("_law_parts", none)).2 → H (cT K ("_law_parts", none)).2 = some (.tbl #[]) → ns.length ≤ 63 → Env0 P w K mg base callerA [] s H → SqL K H a (ns.map V.int) → codeAny (model P w) callerA (.call (.ref f) ⟨[.ref a], []⟩) (CR CX0 [] P w H s (fun v _ => v = .bl true) (fun _ _ _ => False)) s := by
  have e := hfa.symm.trans (glo_ok X G (c.d.fact 52 (f := .glo "law") rfl))
  cases e
  obtain ⟨x1, x2⟩ := ba c.x
  have eo : ∀ d ∈ errs, ErrOk K (ga K "KinError") d := fun d hd => ErrD.ok_ok (List.all_eq_true.mp x1 d hd)
  have E0' := eo ⟨"BadWorld", ["index", "what"]⟩ (List.mem_of_getElem? (i := 0) rfl)
  have E1' := eo ⟨"NoClass", ["cls"]⟩ (List.mem_of_getElem? (i := 1) rfl)
  have TBW : ErrX K mg "BadWorld" ["index", "what"] (ga K "BadWorld") (ma K (ga K "BadWorld") "__init__") := err_x E0' (glo_ok X G (c.d.fact 54 (f := .glo "BadWorld") rfl))
  have TNC : ErrX K mg "NoClass" ["cls"] (ga K "NoClass") (ma K (ga K "NoClass") "__init__") := err_x E1' (glo_ok X G (c.d.fact 56 (f := .glo "NoClass") rfl))
  have B : Fr mg := ⟨(free_ok X G (c.d.fact 3 (f := .free "isinstance") rfl)), (free_ok X G (c.d.fact 9 (f := .free "list") rfl)), (free_ok X G (c.d.fact 8 (f := .free "tuple") rfl)), (free_ok X G (c.d.fact 10 (f := .free "bool") rfl)), (free_ok X G (c.d.fact 1 (f := .free "int") rfl)), (free_ok X G (c.d.fact 0 (f := .free "len") rfl)), (free_ok X G (c.d.fact 5 (f := .free "set") rfl)), (free_ok X G (c.d.fact 4 (f := .free "range") rfl)), (free_ok X G (c.d.fact 6 (f := .free "sorted") rfl)), (free_ok X G (c.d.fact 7 (f := .free "enumerate") rfl))⟩
  have Z : Cst mg := ⟨(int_ok X G (c.d.fact 19 (f := .int "MOST_FIELDS" 3) rfl)), (int_ok X G (c.d.fact 20 (f := .int "MOST_METHODS" 3) rfl)), (int_ok X G (c.d.fact 21 (f := .int "METHOD_NAMES" 6) rfl)), (int_ok X G (c.d.fact 18 (f := .int "MOST_CLASSES" 12) rfl))⟩
  have TC : ClsWorld K mg (ga K "World") := ⟨cls_ok (c.d.fact 63 (f := .cls "World") rfl), fun f hf => by
    rcases List.mem_cons.mp hf with rfl | hf
    · exact noat_ok (c.d.fact 65 (f := .noat "World" "classes") rfl)
    rcases List.mem_cons.mp hf with rfl | hf
    · exact noat_ok (c.d.fact 66 (f := .noat "World" "bases") rfl)
    rcases List.mem_cons.mp hf with rfl | hf
    · exact noat_ok (c.d.fact 67 (f := .noat "World" "owns") rfl)
    rcases List.mem_cons.mp hf with rfl | hf
    · exact noat_ok (c.d.fact 68 (f := .noat "World" "methods") rfl)
    rcases List.mem_cons.mp hf with rfl | hf
    · exact noat_ok (c.d.fact 69 (f := .noat "World" "elders") rfl)
    rcases List.mem_cons.mp hf with rfl | hf
    · exact noat_ok (c.d.fact 70 (f := .noat "World" "heirs") rfl)
    cases hf⟩
  obtain ⟨fdS, FS⟩ := c.d.def_ 0 (d := dF 8 "is_sequence" []) rfl
  obtain ⟨fdW, FW⟩ := c.d.def_ 1 (d := dF 9 "is_whole" [.non, .non]) rfl
  obtain ⟨fdU, FU⟩ := c.d.def_ 2 (d := dF 10 "is_unlike_row" []) rfl
  obtain ⟨fdC, FC⟩ := c.d.def_ 3 (d := dF 12 "check_class" []) rfl
  obtain ⟨fdEF, FEF⟩ := c.d.def_ 4 (d := dF 19 "entry_fault" []) rfl
  obtain ⟨fdER, FER⟩ := c.d.def_ 5 (d := dF 20 "elder_rows" []) rfl
  obtain ⟨fdHR, FHR⟩ := c.d.def_ 6 (d := dF 21 "heir_rows" []) rfl
  obtain ⟨fdCN, FCN⟩ := c.d.def_ 7 (d := dF 23 "check_name" []) rfl
  obtain ⟨fdDe, FDe⟩ := c.d.def_ 8 (d := dF 24 "defining_of" []) rfl
  obtain ⟨fdAn, FAn⟩ := c.d.def_ 9 (d := dF 25 "answers_of" []) rfl
  obtain ⟨fdLH, FLH⟩ := c.d.def_ 10 (d := dF 26 "last_heirs" []) rfl
  obtain ⟨fdTw, FTw⟩ := c.d.def_ 11 (d := dF 27 "two_answers" []) rfl
  obtain ⟨fdCL, FCL⟩ := c.d.def_ 12 (d := dF 29 "check_lot" []) rfl
  obtain ⟨fdAm, FAm⟩ := c.d.def_ 13 (d := dF 31 "answers_among" []) rfl
  obtain ⟨fdLe, FLe⟩ := c.d.def_ 14 (d := dF 32 "least_clear" []) rfl
  obtain ⟨fdMm, FMm⟩ := c.d.def_ 15 (d := dF 33 "missing_methods" []) rfl
  obtain ⟨fdHa, FHa⟩ := c.d.def_ 16 (d := dF 35 "_law_hand" []) rfl
  obtain ⟨fdMi, FMi⟩ := c.d.def_ 17 (d := dF 36 "_law_mixed" []) rfl
  obtain ⟨fdTa, FTa⟩ := c.d.def_ 18 (d := dF 37 "_law_take" []) rfl
  obtain ⟨fdBa, FBa⟩ := c.d.def_ 19 (d := dF 38 "_law_bases" []) rfl
  obtain ⟨fdMe, FMe⟩ := c.d.def_ 20 (d := dF 39 "_law_methods" []) rfl
  obtain ⟨fdSh, FSh⟩ := c.d.def_ 21 (d := dF 40 "_law_shape" []) rfl
  obtain ⟨fdCl, FCl⟩ := c.d.def_ 22 (d := dF 41 "_law_classes" []) rfl
  obtain ⟨fdEl, FEl⟩ := c.d.def_ 23 (d := dF 42 "_law_elders" []) rfl
  obtain ⟨fdLT, FLT⟩ := c.d.def_ 24 (d := dF 43 "_law_tops" []) rfl
  obtain ⟨fdLU, FLU⟩ := c.d.def_ 25 (d := dF 44 "_law_unclear" []) rfl
  obtain ⟨fdPa, FPa⟩ := c.d.def_ 26 (d := dF 45 "_law_parts" []) rfl
  obtain ⟨fdFe, FFe⟩ := c.d.def_ 27 (d := dF 46 "_law_few" []) rfl
  obtain ⟨fdLM, FLM⟩ := c.d.def_ 28 (d := dF 47 "_law_missing" []) rfl
  obtain ⟨fdMo, FMo⟩ := c.d.def_ 29 (d := dF 48 "_law_more" []) rfl
  obtain ⟨fdLaw, FLaw⟩ := c.d.def_ 30 (d := dF 49 "law" []) rfl
  obtain ⟨fdBW, FBW⟩ := c.d.def_ 31 (d := dM 3 0 "BadWorld" "__init__" "BadWorld.__init__") rfl
  obtain ⟨fdNC, FNC⟩ := c.d.def_ 32 (d := dM 4 0 "NoClass" "__init__" "NoClass.__init__") rfl
  obtain ⟨fdWI, FWI⟩ := c.d.def_ 35 (d := dM 18 0 "World" "__init__" "World.__init__") rfl
  have b := FunD.bindsA (ps := ["_law_script"]) FLaw fun _ _ _ _ _ _ us hl => match us, hl with | [_], _ => rfl
  intro base H s a ns _ _ hTB hTab hns env0 hS
  have GHa := ok_hand (P := P) (w := w) (base := base) FHa (free_ok X G (c.d.fact 1 (f := .free "int") rfl)) (free_ok X G (c.d.fact 0 (f := .free "len") rfl)) (free_ok X G (c.d.fact 2 (f := .free "abs") rfl))
  have GTa := ok_take (P := P) (w := w) (base := base) FTa FMi (glo_ok X G (c.d.fact 39 (f := .glo "_law_mixed") rfl)) B.int B.len
  have GBa := ok_bases (P := P) (w := w) (base := base) FBa B FTa (glo_ok X G (c.d.fact 40 (f := .glo "_law_take") rfl)) FMi (glo_ok X G (c.d.fact 39 (f := .glo "_law_mixed") rfl))
  have GCl := ok_classes (P := P) (w := w) (base := base) FCl B FTa (glo_ok X G (c.d.fact 40 (f := .glo "_law_take") rfl)) FMi (glo_ok X G (c.d.fact 39 (f := .glo "_law_mixed") rfl)) FBa (glo_ok X G (c.d.fact 41 (f := .glo "_law_bases") rfl)) FSh (glo_ok X G (c.d.fact 43 (f := .glo "_law_shape") rfl)) FMe (glo_ok X G (c.d.fact 42 (f := .glo "_law_methods") rfl)) (free_ok X G (c.d.fact 12 (f := .free "max") rfl)) (free_ok X G (c.d.fact 13 (f := .free "min") rfl))
  have GFe := ok_few (P := P) (w := w) (base := base) FFe B FTa (glo_ok X G (c.d.fact 40 (f := .glo "_law_take") rfl)) FMi (glo_ok X G (c.d.fact 39 (f := .glo "_law_mixed") rfl))
  have GW := ok_world (P := P) (w := w) (base := base) FWI B Z TC FS (glo_ok X G (c.d.fact 22 (f := .glo "is_sequence") rfl)) FW (glo_ok X G (c.d.fact 23 (f := .glo "is_whole") rfl)) FU (glo_ok X G (c.d.fact 24 (f := .glo "is_unlike_row") rfl)) FEF (glo_ok X G (c.d.fact 26 (f := .glo "entry_fault") rfl)) FER (glo_ok X G (c.d.fact 27 (f := .glo "elder_rows") rfl)) FHR (glo_ok X G (c.d.fact 28 (f := .glo "heir_rows") rfl)) FBW TBW
  have GEl := ok_lelders (P := P) (w := w) (base := base) FEl B
  have GCN := ok_name (P := P) (w := w) (base := base) FCN B Z FW (glo_ok X G (c.d.fact 23 (f := .glo "is_whole") rfl))
  have GDe := ok_defining (P := P) (w := w) (base := base) FDe B TC FC (glo_ok X G (c.d.fact 25 (f := .glo "check_class") rfl)) FW (glo_ok X G (c.d.fact 23 (f := .glo "is_whole") rfl)) FNC TNC FCN (glo_ok X G (c.d.fact 29 (f := .glo "check_name") rfl)) Z
  have GLH := ok_last (P := P) (w := w) (base := base) FLH B (free_ok X G (c.d.fact 15 (f := .free "any") rfl)) TC
  have GAn := ok_answers (P := P) (w := w) (base := base) FAn FDe (glo_ok X G (c.d.fact 30 (f := .glo "defining_of") rfl)) GDe FLH (glo_ok X G (c.d.fact 32 (f := .glo "last_heirs") rfl)) GLH
  have GTw := ok_two (P := P) (w := w) (base := base) FTw B Z TC FAn (glo_ok X G (c.d.fact 31 (f := .glo "answers_of") rfl)) GAn
  have GLL := ok_lastL (P := P) (w := w) (base := base) FLH B (free_ok X G (c.d.fact 15 (f := .free "any") rfl)) TC
  have GCL := ok_checkLot (P := P) (w := w) (base := base) FCL B TC FW (glo_ok X G (c.d.fact 23 (f := .glo "is_whole") rfl)) FS (glo_ok X G (c.d.fact 22 (f := .glo "is_sequence") rfl))
  have GAm := ok_among (P := P) (w := w) (base := base) FAm TC FLH (glo_ok X G (c.d.fact 32 (f := .glo "last_heirs") rfl)) GLL
  have GLe := ok_leastC (P := P) (w := w) (base := base) FLe B TC FCL (glo_ok X G (c.d.fact 34 (f := .glo "check_lot") rfl)) GCL FAm (glo_ok X G (c.d.fact 35 (f := .glo "answers_among") rfl)) GAm
  have GMm := ok_miss (P := P) (w := w) (base := base) FMm B Z TC FLe (glo_ok X G (c.d.fact 36 (f := .glo "least_clear") rfl)) GLe
  have GTo := ok_topsG (P := P) (w := w) (base := base) FLT B
  have GLU := ok_lUncl (P := P) (w := w) (base := base) FLU B FLT (glo_ok X G (c.d.fact 46 (f := .glo "_law_tops") rfl)) GTo
  have GPa := ok_parts (P := P) (w := w) (base := base) FPa (FunD.codeAt (p := ("_law_parts", none)) FPa) hTB B
  have GLM := ok_lmiss (P := P) (w := w) (base := base) FLM B
  have GMo := ok_more (P := P) (w := w) (base := base) FMo B
  exact law_at FLaw B (free_ok X G (c.d.fact 16 (f := .free "repr") rfl)) FHa (glo_ok X G (c.d.fact 38 (f := .glo "_law_hand") rfl)) GHa FCl (glo_ok X G (c.d.fact 44 (f := .glo "_law_classes") rfl)) GCl FFe (glo_ok X G (c.d.fact 49 (f := .glo "_law_few") rfl)) GFe FBa (glo_ok X G (c.d.fact 41 (f := .glo "_law_bases") rfl)) GBa FEl (glo_ok X G (c.d.fact 45 (f := .glo "_law_elders") rfl)) GEl FPa (glo_ok X G (c.d.fact 48 (f := .glo "_law_parts") rfl)) GPa FLU (glo_ok X G (c.d.fact 47 (f := .glo "_law_unclear") rfl)) GLU FLM (glo_ok X G (c.d.fact 50 (f := .glo "_law_missing") rfl)) GLM FMm (glo_ok X G (c.d.fact 37 (f := .glo "missing_methods") rfl)) GMm FTw (glo_ok X G (c.d.fact 33 (f := .glo "two_answers") rfl)) GTw FMo (glo_ok X G (c.d.fact 51 (f := .glo "_law_more") rfl)) GMo
    FWI (mkr_ok (c.d.fact 64 (f := .mkr "World") rfl)) (glo_ok X G (c.d.fact 62 (f := .glo "World") rfl)) GW env0 (b s [.ref a] rfl) hns hS hTab
end K59
open PySem PySem.W PySem.Calls PyProof.Rows
theorem PySem.Challenge.cw_headamid_k59_whole_methods_that_clear_a_holds : PySem.Challenge.rw_headamid_k59_whole_methods_that_clear_a.Holds := by
  w_on; o_law
  refine HandSHeadRun.head_any (r := OpenLaw.row PySem.Challenge.rw_headamid_k59_whole_methods_that_clear_a) (q := view (OpenLaw.row PySem.Challenge.rw_headamid_k59_whole_methods_that_clear_a).prog [49]) (H := K59.hk) (ob := K59.ob) (M := 40000) (loose := K59.loose) (d := HandSHeadRun.topDef (OpenLaw.row PySem.Challenge.rw_headamid_k59_whole_methods_that_clear_a).prog 49) (kwd := []) K59.ob_eq
    (by kernel_rfl) (fun s => by kernel_rfl) K59.run (by kernel_rfl) (by kernel_rfl) (by kernel_rfl) (by rfl) (by first | assumption | decide +kernel) (by decide +kernel) ⟨rfl, rfl, rfl, rfl, rfl, by decide +kernel⟩ ?hw ?hc
  case hw => w_witness2
  case hc =>
    refine Kw.walk_hereT (l := PySem.Challenge.rw_headamid_k59_whole_methods_that_clear_a) (n := 63) (CX := L2.CX0) rfl (by decide) (by kernel_rfl) ?F (fun _ _ _ _ z => z)
    intro w mg fa h Y G hmg0
    obtain ⟨K, KX, c⟩ := Y
    have hmg : mg ("law" : PySem.Str) = some (.ref fa) := by
      have e : (HandSHeadRun.topDef (OpenLaw.row PySem.Challenge.rw_headamid_k59_whole_methods_that_clear_a).prog 49).name = ("law" : PySem.Str) := by kernel_rfl
      rw [← e]
      exact hmg0
    have one : ∀ {p : PySem.Addr × PySem.Addr}, p ∈ [He.cT K ("_law_parts", none)] → p = He.cT K ("_law_parts", none) := fun hp => List.mem_singleton.mp hp
    have mem : (("_law_parts", none) : He.Defn) ∈ K59.tf := List.mem_cons_self
    refine ⟨K, [He.cT K ("_law_parts", none)], KX, fun p hp => ?_, fun p hp => ?_, fun p hp => ?_, fun base H s a ns hb hn hT hH => K59.facts (P := (PySem.Challenge.rw_headamid_k59_whole_methods_that_clear_a).prog) (w := w) KX G hmg c.k base H s a ns hb hn (hT _ List.mem_cons_self) (hH _ List.mem_cons_self)⟩
    · rw [one hp]
      exact c.empty _ mem
    · rw [one hp]
      exact c.out _ mem
    · rw [one hp]
      exact PySem.W.codeHd_of_K KX (c.hd _ mem)
